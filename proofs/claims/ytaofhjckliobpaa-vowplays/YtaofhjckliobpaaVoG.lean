/- drop: a key made one that is not promised. -/
import Derived.Test.YtaofhjckliobpaaVoF
namespace Go.Proofs.Ytaofhjckliobpaa
open Go.RowKit Go.Shelf
attribute [local go_sem high] eqK neqK guardK run_store_complex

theorem IsV.p_t {w : World} {B t : Nat} {s : Vt} (h : IsV w B t s) {k : Nat} (hk : s.pv.ownBlock = some k) : k ≠ t := (h.tp hk).ne h.tt (by decide)
theorem IsV.q_t {w : World} {B t : Nat} {s : Vt} (h : IsV w B t s) {k : Nat} (hk : s.qv.ownBlock = some k) : k ≠ t := (h.tq hk).ne h.tt (by decide)
theorem IsV.e_t {w : World} {B t : Nat} {s : Vt} (h : IsV w B t s) {b : Br} (hb : b ∈ s.bs) {k : Nat} (hk : b.v.ownBlock = some k) : k ≠ t := (h.te hb hk).ne h.tt (by decide)
theorem IsV.p_q {w : World} {B t : Nat} {s : Vt} (h : IsV w B t s) {k : Nat} (hq : s.qv.ownBlock = some k) : s.pv.ownBlock ≠ some k := fun hk => (h.tp hk).ne (h.tq hq) (by decide) rfl
theorem IsV.e_q {w : World} {B t : Nat} {s : Vt} (h : IsV w B t s) {b : Br} (hb : b ∈ s.bs) {k : Nat} (hk : b.v.ownBlock = some k) : s.qv.ownBlock ≠ some k := fun hq => (h.te hb hk).ne (h.tq hq) (by decide) rfl
/-- the promises turned -/
theorem IsV.putP {w w1 : World} {B t : Nat} {s : Vt} (h : IsV w B t s) (hO : Only (fun x => s.pv.ownBlock = some x) w w1) (v' : Value) (ks' : List Ky) (hr : RowK w1 B v' ks') (hl : ks'.length ≤ 33) (hn : ∀ k, v'.ownBlock = some k → s.pv.ownBlock = some k ∨ w.heap.size ≤ k) :
    SV w (w1.setCell ⟨t, 1, none⟩ v') B t s { s with pv := v', ks := ks' } := by
  have ht := h.tt.lt
  have e1 : w1.heap[t]? = w.heap[t]? := hO.block t ht fun e => h.p_t e rfl
  have hh := e1.trans h.head
  have ht1 : Tag w1 t 64 := ⟨_, _, hh⟩
  have hq : ∀ k, s.qv.ownBlock = some k → (w1.setCell ⟨t, 1, none⟩ v').heap[k]? = w.heap[k]? := fun k hk => (heap_set_ne (h.q_t hk)).trans (hO.block k (h.rb.lt hk).2 (h.p_q hk))
  have he : ∀ b ∈ s.bs, ∀ k, b.v.ownBlock = some k → (w1.setCell ⟨t, 1, none⟩ v').heap[k]? = w.heap[k]? := fun b hb k hk => (heap_set_ne (h.e_t hb hk)).trans (hO.block k ((h.each b hb).1.lt hk).2 ((h.each b hb).2.2.2 k hk))
  refine ⟨⟨(heap_set hh 1 _).trans rfl, h.bt, hr.moved fun k hk => heap_set_ne ((Tag.own hr hk).ne ht1 (by decide)), h.rb.moved hq, fun b hb => ⟨(h.each b hb).1.moved (he b hb), (h.each b hb).2.1, (h.each b hb).2.2.1, fun k hk hp => ?_⟩, h.mkk, hl, h.lb, h.lp, h.lq⟩, ?_, ?_, ?_⟩
  · rcases hn k hp with e | e
    · exact (h.each b hb).2.2.2 k hk e
    · have := ((h.each b hb).1.lt hk).2; omega
  · exact (hO.mono fun k hk => .inr (.inl hk)).trans ((only1 w1 t 1 v').mono fun k hk => .inl hk)
  · rintro k (hk | hk | hk)
    · exact .inl (.inl hk)
    · exact (hn k hk).imp (fun e => .inr (.inl e)) id
    · exact .inl (.inr (.inr hk))
  · rintro k ((hk | hk | hk) | hk)
    · exact .inl (.inl (.inl hk))
    · exact (hn k hk).imp (fun e => .inl (.inr (.inl e))) id
    · exact .inl (.inl (.inr (.inr hk)))
    · exact .inl (.inr hk)
/-- slices.DeleteFunc over the promises of a table -/
theorem deleteP_p (t B gk : Nat) (s : Vt) (k : Ky) (w : World) (h : IsV w B t s) (hbx : BoxK w gk k) (hg : s.pv.ownBlock ≠ some gk) :
    Calls Try.prog 53 #[s.pv, .func (.func 54) #[] #[.pointer (some ⟨gk, 0, none⟩)]] w fun e w' => ∃ v', e = .returned v' ∧ RowK w' B v' (dropK s.ks k) ∧ v'.ownBlock = s.pv.ownBlock ∧ Only (fun x => s.pv.ownBlock = some x) w w' := by
  have hk := h.rk
  rcases hk.2 with ⟨e, h2⟩ | ⟨g, cap, cur, e, hrest⟩
  · rw [e]
    obtain h0 := List.length_eq_zero_iff.1 h2
    refine (delete_nil _ w).mono ?_
    rintro x w' ⟨rfl, rfl⟩
    refine ⟨_, rfl, ?_, rfl, Only.refl _ _⟩
    rw [h0]; exact World.ownsRow_nil _ _ _ _
  · rw [e] at hg hk ⊢
    have eg : ∀ args w, (callFunc 54 args).run Try.prog w = .ok (.enter 54 args) w := enters_of Try.func54 (by kernel_rfl) rfl
    have hgk : gk < w.heap.size := (Array.getElem?_eq_some_iff.1 hbx).1
    have hne : gk ≠ g := fun e => hg (by rw [e]; rfl)
    refine (delete_own 54 #[.pointer (some ⟨gk, 0, none⟩)] (fun x => eqKy x k) g s.ks.length cap B s.ks w hk rfl (by have := h.lk; omega) eg fun W x hO => same_p x k gk W ((hO.block gk hgk hne).trans hbx)).mono ?_
    rintro x w' ⟨rfl, hr, hO⟩
    exact ⟨_, rfl, hr, rfl, hO.mono fun y hy => by rw [hy]; rfl⟩
theorem drop_p (t B : Nat) (s : Vt) (k : Ky) (w : World) (h : IsV w B t s) : Calls Try.prog 36 #[.pointer (some ⟨t, 0, none⟩), k.agg] w fun e w' => e = .returned (.tuple #[]) ∧ ∃ s', SV w w' B t s s' ∧ s'.say = { s.say with ks := dropK s.ks k } := by
  obtain ⟨a, cap, hv⟩ := owns_len h.rk
  unfold Ky.agg
  obtain ⟨W, hW⟩ : ∃ W, w.alloc (.cells #[.int .i64 k.d, .string k.nm] 36) = W := ⟨_, rfl⟩
  obtain ⟨bx, bb⟩ := box_new (wr := w) (k := k)
  rw [hW] at bx bb
  have h1 := h.below bb
  have hdel := deleteP_p t B w.heap.size s k W h1 bx fun e => by have := (h.rk.lt e).2; omega
  have HS : Hid (∀ w1 v', RowK w1 B v' (dropK s.ks k) → v'.ownBlock = s.pv.ownBlock → Only (fun x => s.pv.ownBlock = some x) W w1 → SV w (w1.setCell ⟨t, 1, none⟩ v') B t s { s with pv := v', ks := dropK s.ks k }) := fun w1 v' hr ho hO =>
    SV.pre bb h (h1.putP hO v' _ hr (Nat.le_trans (dropK_le _ _) h.lk) fun y hy => .inl (by rw [← ho]; exact hy))
  obtain ⟨-, c1, -, -, -, cf⟩ := h1.cells
  have HT : Hid (∀ w1, Only (fun x => s.pv.ownBlock = some x) W w1 → w1.cell? ⟨t, 1, none⟩ = some s.pv ∧ ∀ i, w1.frozen? ⟨t, i, none⟩ = false) := fun w1 hO => by
    have e1 := (hO.block t h1.tt.lt fun e => h1.p_t e rfl).trans h1.head
    exact ⟨by rw [cell_of e1]; rfl, free_of e1⟩
  rw [hv] at c1 hdel
  clear h h1 bx bb
  go_enter Try.func36, Try.ntmps36
  go_upto_region 1 with fail
  clear hW
  go_wp2_with (go_at_call 53; refine hdel.mono ?_; rintro x w1 ⟨v', rfl, hr, ho, hO⟩; obtain ⟨av, cv, rfl⟩ := owns_len hr; obtain ⟨d1, df⟩ := HT.out w1 (by rw [hv]; exact hO); rw [hv] at d1)
  go_end0
  exact ⟨rfl, _, HS.out _ _ hr (by rw [hv]; exact ho) (by rw [hv]; exact hO), rfl⟩
end Go.Proofs.Ytaofhjckliobpaa
