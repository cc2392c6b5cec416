/- A law's table: what it says, and what the law keeps beside it; one line for each call. -/
import Derived.Test.YtaofhjckliobpaaVpA
namespace Go.Proofs.Ytaofhjckliobpaa
open Go.RowKit Go.Shelf Go.Sort

theorem tell_e (S : Vs) (ks : List Ky) (ver : Int) : (S.tell ks ver).1.e = S.e ∧ (S.tell ks ver).1.mp = S.mp ∧ (S.tell ks ver).1.mq = S.mq := by
  unfold Vs.tell
  split
  · split <;> exact ⟨rfl, rfl, rfl⟩
  · exact ⟨rfl, rfl, rfl⟩
theorem tell_ks (S : Vs) (ks : List Ky) (ver : Int) : (S.tell ks ver).1.ks = S.ks ∨ (S.tell ks ver).1.ks = [] := by
  unfold Vs.tell
  split
  · split
    · exact .inr rfl
    · exact .inl rfl
  · exact .inr rfl
theorem tell_small (S : Vs) (ks : List Ky) (ver : Int) : ∀ b ∈ (S.tell ks ver).2, b.ks = ks ∨ b.ks = [] := by
  unfold Vs.tell
  split
  · split
    · intro b hb; rw [List.mem_singleton.1 hb]; exact .inr rfl
    · intro b hb; rw [List.mem_singleton.1 hb]; exact .inl rfl
  · intro b hb; cases hb
theorem tell_one (S : Vs) (ks : List Ky) (ver : Int) : (S.tell ks ver).2.length ≤ 1 := by
  unfold Vs.tell
  split
  · split <;> exact Nat.le_refl _
  · exact Nat.zero_le _
theorem grant_cases (S : Vs) (k : Ky) (ver : Int) : (S.grant k ver = ({ S with ks := dropK S.ks k ++ [k] }, []) ∧ (dropK S.ks k ++ [k]).length ≤ S.mp) ∨ ∃ o l, dropK S.ks k ++ [k] = o :: l ∧ ¬ (dropK S.ks k ++ [k]).length ≤ S.mp ∧ S.grant k ver = Vs.tell { S with ks := dropK (o :: l) o } [o] ver := by
  obtain ⟨o, l, hol⟩ : ∃ o l, dropK S.ks k ++ [k] = o :: l := by
    cases hc : dropK S.ks k with
    | nil => exact ⟨k, [], rfl⟩
    | cons a m => exact ⟨a, m ++ [k], rfl⟩
  unfold Vs.grant
  by_cases h : (dropK S.ks k ++ [k]).length ≤ S.mp
  · exact .inl ⟨by rw [if_pos h], h⟩
  · refine .inr ⟨o, l, hol, h, ?_⟩
    rw [if_neg h, hol]
theorem grant_e (S : Vs) (k : Ky) (ver : Int) : (S.grant k ver).1.e = S.e ∧ (S.grant k ver).1.mp = S.mp ∧ (S.grant k ver).1.mq = S.mq := by
  rcases grant_cases S k ver with ⟨e, _⟩ | ⟨o, l, _, _, e⟩
  · rw [e]; exact ⟨rfl, rfl, rfl⟩
  · rw [e]; exact tell_e _ _ _
theorem grant_ok (S : Vs) (k : Ky) (ver : Int) (h : S.ks.length ≤ S.mp) : (S.grant k ver).1.ks.length ≤ S.mp := by
  rcases grant_cases S k ver with ⟨e, h1⟩ | ⟨o, l, hol, _, e⟩
  · rw [e]; exact h1
  · rw [e]
    rcases tell_ks { S with ks := dropK (o :: l) o } [o] ver with e2 | e2
    · rw [e2]
      have h1 : (dropK (o :: l) o).length < (o :: l).length := dropK_lt (List.mem_cons_self ..)
      have h2 : (o :: l).length ≤ S.ks.length + 1 := by rw [← hol, List.length_append]; have := dropK_le S.ks k; simp; omega
      show (dropK (o :: l) o).length ≤ S.mp
      omega
    · rw [e2]; exact Nat.zero_le _
theorem grant_small (S : Vs) (k : Ky) (ver : Int) : ∀ b ∈ (S.grant k ver).2, b.ks.length * 24 ≤ LK := by
  rcases grant_cases S k ver with ⟨e, _⟩ | ⟨o, l, _, _, e⟩
  · rw [e]; intro b hb; cases hb
  · rw [e]
    intro b hb
    rcases tell_small _ _ _ b hb with e2 | e2 <;> rw [e2] <;> simp [LK]
theorem touch_cases (S : Vs) (ks : List Ky) (ver : Int) : (S.touch ks ver = (S, []) ∧ srtK (S.told ks) = []) ∨ (srtK (S.told ks) ≠ [] ∧ S.touch ks ver = Vs.tell { S with ks := minusK S.ks (srtK (S.told ks)) } (srtK (S.told ks)) ver) := by
  unfold Vs.touch
  by_cases h : (srtK (S.told ks)).length = 0
  · exact .inl ⟨by rw [if_pos h], List.length_eq_zero_iff.1 h⟩
  · exact .inr ⟨fun e => h (by rw [e]; rfl), by rw [if_neg h]⟩
theorem touch_e (S : Vs) (k : List Ky) (ver : Int) : (S.touch k ver).1.e = S.e ∧ (S.touch k ver).1.mp = S.mp ∧ (S.touch k ver).1.mq = S.mq := by
  rcases touch_cases S k ver with ⟨e, _⟩ | ⟨_, e⟩
  · rw [e]; exact ⟨rfl, rfl, rfl⟩
  · rw [e]; exact tell_e _ _ _
theorem touch_ok (S : Vs) (k : List Ky) (ver : Int) (h : S.ks.length ≤ S.mp) : (S.touch k ver).1.ks.length ≤ S.mp := by
  rcases touch_cases S k ver with ⟨e, _⟩ | ⟨_, e⟩
  · rw [e]; exact h
  · rw [e]
    rcases tell_ks { S with ks := minusK S.ks (srtK (S.told k)) } (srtK (S.told k)) ver with e2 | e2
    · rw [e2]; exact Nat.le_trans (minusK_le _ _) h
    · rw [e2]; exact Nat.zero_le _
theorem touch_small (S : Vs) (k : List Ky) (ver : Int) (h : k.length * 24 ≤ LK) : ∀ b ∈ (S.touch k ver).2, b.ks.length * 24 ≤ LK := by
  rcases touch_cases S k ver with ⟨e, _⟩ | ⟨_, e⟩
  · rw [e]; intro b hb; cases hb
  · rw [e]
    intro b hb
    rcases tell_small _ _ _ b hb with e2 | e2
    · rw [e2]
      have h1 := srtK_len (S.told k)
      have h2 : (S.told k).length ≤ k.length := List.length_filter_le _ _
      omega
    · rw [e2]; simp [LK]

/-- breaks that a call has answered -/
def Rt (w : World) (base : Nat) (v : Value) (L : List Bs) (e : Int) : Prop := ∃ bs, Brs w base v bs ∧ bs.map Br.say = L ∧ (∀ b ∈ bs, Mk b.a b.b e (part b.b)) ∧ ∀ b ∈ L, b.ks.length * 24 ≤ LK
theorem Rt.form {w : World} {base : Nat} {v : Value} {L : List Bs} {e : Int} (h : Rt w base v L e) : ∃ a cap, v = .slice a L.length cap := by
  obtain ⟨bs, hb, hl, _⟩ := h
  obtain ⟨a, cap, rfl⟩ := owns_len hb.row
  exact ⟨a, cap, by rw [← hl, List.length_map]⟩
theorem Rt.below {w w' : World} {base : Nat} {v : Value} {L : List Bs} {e : Int} (h : Rt w base v L e) (hb : Below w.heap.size w w') : Rt w' base v L e := by
  obtain ⟨bs, h1, h2⟩ := h
  exact ⟨bs, h1.below hb, h2⟩
theorem Rt.moved {w w' : World} {base : Nat} {v : Value} {L : List Bs} {e : Int} (h : Rt w base v L e) (hb : ∀ k, base ≤ k → k < w.heap.size → w'.heap[k]? = w.heap[k]?) : Rt w' base v L e := by
  obtain ⟨bs, h1, h2⟩ := h
  exact ⟨bs, h1.moved (fun k hk => hb k (h1.row.lt hk).1 (h1.row.lt hk).2) (fun b hm k hk => hb k ((h1.each b hm).lt hk).1 ((h1.each b hm).lt hk).2), h2⟩

/-- a law's table; F: blocks that the law keeps -/
structure Lv (w0 wr : World) (t : Nat) (S : Vs) (F : Nat → Prop) : Prop where
  ex : ∃ s, IsV wr w0.heap.size t s ∧ s.say = S ∧ ∀ k, F k → k < wr.heap.size ∧ ¬ s.blk t k
  below : Below w0.heap.size w0 wr
  ks : S.ks.length ≤ S.mp
  q1 : 1 ≤ S.mq
theorem Lv.mono {w0 wr : World} {t : Nat} {S : Vs} {F G : Nat → Prop} (h : Lv w0 wr t S F) (hG : ∀ k, G k → F k) : Lv w0 wr t S G := by
  obtain ⟨s, h1, h2, h3⟩ := h.ex
  exact ⟨⟨s, h1, h2, fun k hk => h3 k (hG k hk)⟩, h.below, h.ks, h.q1⟩
theorem Lv.on {w0 wr w' : World} {t : Nat} {S : Vs} {F : Nat → Prop} (h : Lv w0 wr t S F) (hb : Below wr.heap.size wr w') : Lv w0 w' t S (fun k => F k ∨ wr.heap.size ≤ k ∧ k < w'.heap.size) := by
  obtain ⟨s, h1, h2, h3⟩ := h.ex
  refine ⟨⟨s, h1.below hb, h2, fun k hk => ?_⟩, chainB h.below hb, h.ks, h.q1⟩
  rcases hk with hk | hk
  · exact ⟨Nat.lt_of_lt_of_le (h3 k hk).1 hb.size, (h3 k hk).2⟩
  · exact ⟨hk.2, fun e => by have := (h1.lt e).2; omega⟩
theorem Lv.drewN {w0 wr : World} {t : Nat} {S : Vs} {F : Nat → Prop} (h : Lv w0 wr t S F) (q : Nat) : Lv w0 (wr.drewN q) t S F := (h.on (below_drewN (Below.refl _ _) q)).mono fun _ hk => .inl hk
/-- the law writes blocks of its own -/
theorem Lv.own {w0 wr w' : World} {t : Nat} {S : Vs} {F : Nat → Prop} (h : Lv w0 wr t S F) (hO : Only F wr w') (hF : ∀ k, F k → w0.heap.size ≤ k) : Lv w0 w' t S (fun k => F k ∨ wr.heap.size ≤ k ∧ k < w'.heap.size) := by
  obtain ⟨s, h1, h2, h3⟩ := h.ex
  refine ⟨⟨s, h1.moved fun k hk => hO.block k (h1.lt hk).2 fun e => (h3 k e).2 hk, h2, fun k hk => ?_⟩, hO.below h.below h.below.size hF, h.ks, h.q1⟩
  rcases hk with hk | hk
  · exact ⟨Nat.lt_of_lt_of_le (h3 k hk).1 hO.size, (h3 k hk).2⟩
  · exact ⟨hk.2, fun e => by have := (h1.lt e).2; omega⟩
/-- what a call that makes breaks leaves -/
structure Lc (w0 wr w' : World) (t : Nat) (F : Nat → Prop) (v' : Value) (r : Vs × List Bs) (e : Int) (Bq : Nat) : Prop where
  lv : Lv w0 w' t r.1 (fun k => F k ∨ Bq ≤ k ∧ k < w'.heap.size)
  rt : Rt w' Bq v' r.2 e
  kept : ∀ k, F k → w'.heap[k]? = wr.heap[k]?
  bq : wr.heap.size ≤ Bq
theorem lc_of {w0 wr w' : World} {t : Nat} {s : Vt} {F : Nat → Prop} {v' : Value} {r : Vs × List Bs} (h1 : IsV wr w0.heap.size t s) (h3 : ∀ k, F k → k < wr.heap.size ∧ ¬ s.blk t k) (hb : Below w0.heap.size w0 wr) (hT : TellR wr w' w0.heap.size t s (fun _ => False) v' r) (hks : r.1.ks.length ≤ r.1.mp) (hq : 1 ≤ r.1.mq) (hsm : ∀ b ∈ r.2, b.ks.length * 24 ≤ LK) : ∃ Bq, Lc w0 wr w' t F v' r (part s.a) Bq := by
  obtain ⟨bs', s', Bq, k1, k2, k3, k4, k5, k6, k7⟩ := hT
  refine ⟨Bq, ⟨⟨s', k6.is, k5, fun k hk => ?_⟩, k6.only.below hb hb.size (fun k hk => (h1.lt (.inl hk)).1), hks, hq⟩, ⟨bs', k1, k4, k7, hsm⟩, fun k hk => k6.only.block k (h3 k hk).1 fun e => (h3 k hk).2 (.inl e), k3⟩
  rcases hk with hk | hk
  · refine ⟨Nat.lt_of_lt_of_le (h3 k hk).1 k6.only.size, fun e => ?_⟩
    rcases k6.nblk k e with e | e | e
    · exact (h3 k hk).2 e
    · have := (h3 k hk).1; omega
    · exact e
  · exact ⟨hk.2, fun e => by have := k2 k e; omega⟩
theorem lv_grant {w0 wr : World} {t : Nat} {S : Vs} {F : Nat → Prop} (h : Lv w0 wr t S F) (k : Ky) (ver : Int) :
    Calls Try.prog 17 #[.pointer (some ⟨t, 0, none⟩), k.agg, .int .i64 ver] wr fun x w' => ∃ v', x = .returned v' ∧ ∃ Bq, Lc w0 wr w' t F v' (S.grant k ver) S.e Bq := by
  obtain ⟨s, h1, h2, h3⟩ := h.ex
  subst h2
  refine (grant_p t _ s k ver wr h1 h.ks h.q1).mono ?_
  rintro x w' ⟨v', rfl, hT⟩
  have he := grant_e s.say k ver
  exact ⟨v', rfl, lc_of h1 h3 h.below hT (by rw [he.2.1]; exact grant_ok _ k ver h.ks) (by rw [he.2.2]; exact h.q1) (grant_small _ _ _)⟩
theorem lv_touch {w0 wr : World} {t : Nat} {S : Vs} {F : Nat → Prop} (h : Lv w0 wr t S F) (v : Value) (ks : List Ky) (ver : Int) (hr : RdK wr v ks) (hl : ks.length * 24 ≤ LK) :
    Calls Try.prog 19 #[.pointer (some ⟨t, 0, none⟩), v, .int .i64 ver] wr fun x w' => ∃ v', x = .returned v' ∧ ∃ Bq, Lc w0 wr w' t F v' (S.touch ks ver) S.e Bq := by
  obtain ⟨s, h1, h2, h3⟩ := h.ex
  subst h2
  refine (touch_p t _ s v ks ver wr h1 h.q1 hr hl).mono ?_
  rintro x w' ⟨v', rfl, hT⟩
  have he := touch_e s.say ks ver
  exact ⟨v', rfl, lc_of h1 h3 h.below hT (by rw [he.2.1]; exact touch_ok _ ks ver h.ks) (by rw [he.2.2]; exact h.q1) (touch_small _ _ _ hl)⟩
theorem lv_holds {w0 wr : World} {t : Nat} {S : Vs} {F : Nat → Prop} (h : Lv w0 wr t S F) (k : Ky) :
    Calls Try.prog 14 #[.pointer (some ⟨t, 0, none⟩), k.agg] wr fun x w' => x = .returned (.bool (inK S.ks k)) ∧ Below wr.heap.size wr w' := by
  obtain ⟨s, h1, rfl, h3⟩ := h.ex
  exact holds_p t _ s k wr h1
theorem lv_mark {w0 wr : World} {t : Nat} {S : Vs} {F : Nat → Prop} (h : Lv w0 wr t S F) :
    ∃ a b, Mk a b S.e S.n ∧ Calls Try.prog 26 #[.pointer (some ⟨t, 0, none⟩)] wr fun x w' => x = .returned (.complex .f64 a b) ∧ w' = wr := by
  obtain ⟨s, h1, rfl, h3⟩ := h.ex
  exact ⟨s.a, s.b, h1.mkk, mark_p t _ s wr h1⟩
theorem lv_promises {w0 wr : World} {t : Nat} {S : Vs} {F : Nat → Prop} (h : Lv w0 wr t S F) :
    Calls Try.prog 28 #[.pointer (some ⟨t, 0, none⟩)] wr fun x w' => ∃ v', x = .returned v' ∧ RowK w' wr.heap.size v' S.ks ∧ Below wr.heap.size wr w' := by
  obtain ⟨s, h1, rfl, h3⟩ := h.ex
  exact promises_p t _ s wr h1
theorem lv_queue {w0 wr : World} {t : Nat} {S : Vs} {F : Nat → Prop} (h : Lv w0 wr t S F) :
    Calls Try.prog 30 #[.pointer (some ⟨t, 0, none⟩)] wr fun x w' => ∃ v', x = .returned v' ∧ Rt w' wr.heap.size v' S.q S.e ∧ Below wr.heap.size wr w' := by
  obtain ⟨s, h1, rfl, h3⟩ := h.ex
  refine (queue_p t _ s wr h1).mono ?_
  rintro x w' ⟨v', rfl, bs', hb, hc, hbl⟩
  refine ⟨v', rfl, ⟨bs', hb, say_cores hc, fun b hb' => ?_, fun b hb' => ?_⟩, hbl⟩
  · have : b.core ∈ s.bs.map Br.core := by rw [← hc]; exact List.mem_map_of_mem hb'
    obtain ⟨c, hc1, hc2⟩ := List.mem_map.1 this
    unfold Br.core at hc2
    simp only [Prod.mk.injEq] at hc2
    rw [← hc2.1, ← hc2.2.1]
    exact (h1.each c hc1).2.2.1
  · obtain ⟨c, hc1, rfl⟩ := List.mem_map.1 hb'
    exact (h1.each c hc1).2.1
theorem lv_ack {w0 wr : World} {t : Nat} {S : Vs} {F : Nat → Prop} (h : Lv w0 wr t S F) (c d : Nat) :
    ∃ a b, Mk a b S.e S.n ∧ Calls Try.prog 23 #[.pointer (some ⟨t, 0, none⟩), .complex .f64 c d] wr fun x w' => x = .returned (.bool (gapB c d a b)) ∧ Lv w0 w' t (if gapB c d a b then S.ack (part d) else S) F ∧ (∀ k, F k → w'.heap[k]? = wr.heap[k]?) ∧ wr.heap.size ≤ w'.heap.size := by
  obtain ⟨s, h1, rfl, h3⟩ := h.ex
  refine ⟨s.a, s.b, h1.mkk, (ack_p t _ s c d wr h1).mono ?_⟩
  rintro x w' ⟨rfl, s', hS, hs⟩
  refine ⟨rfl, ⟨⟨s', hS.is, hs, fun k hk => ⟨Nat.lt_of_lt_of_le (h3 k hk).1 hS.only.size, fun e => ?_⟩⟩, hS.only.below h.below h.below.size (fun k hk => (h1.lt (.inl hk)).1), ?_, ?_⟩, fun k hk => hS.only.block k (h3 k hk).1 fun e => (h3 k hk).2 (.inl e), hS.only.size⟩
  · rcases hS.nblk k e with e | e
    · exact (h3 k hk).2 e
    · have := (h3 k hk).1; omega
  · split
    · exact h.ks
    · exact h.ks
  · split
    · exact h.q1
    · exact h.q1
theorem lv_new (w0 wr : World) (hb : Below w0.heap.size w0 wr) (e : Int) (p q : Nat) (he0 : 0 ≤ e) (he1 : e ≤ 1099511627776) (hp0 : 1 ≤ p) (hp : p ≤ 32) (hq0 : 1 ≤ q) (hq : q ≤ 16) :
    Calls Try.prog 9 #[.int .i64 e, .int .i64 p, .int .i64 q] wr fun x w' => x = .returned (.tuple #[.pointer (some ⟨wr.heap.size, 0, none⟩), .int .i64 0]) ∧ Lv w0 w' wr.heap.size (Vs.new e p q) (fun k => k < wr.heap.size) ∧ Below wr.heap.size wr w' := by
  refine (new_yes e p q wr he0 he1 hp0 hp hq0 hq).mono ?_
  rintro x w' ⟨rfl, ⟨s, h1, h2, h3⟩, hb'⟩
  refine ⟨rfl, ⟨⟨s, ?_, h2, fun k hk => ⟨Nat.lt_of_lt_of_le hk hb'.size, fun e => by have := h3 k e; omega⟩⟩, chainB hb hb', Nat.zero_le _, hq0⟩, hb'⟩
  have hle : w0.heap.size ≤ wr.heap.size := hb.size
  exact ⟨h1.head, hle, owns_le h1.rk hle, owns_le h1.rb hle, fun b hm => ⟨owns_le (h1.each b hm).1 hle, (h1.each b hm).2⟩, h1.mkk, h1.lk, h1.lb, h1.lp, h1.lq⟩
end Go.Proofs.Ytaofhjckliobpaa
