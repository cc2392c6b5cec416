/- copied: breaks in new memory. -/
import Derived.Test.YtaofhjckliobpaaVoG
namespace Go.Proofs.Ytaofhjckliobpaa
open Go.RowKit Go.Shelf
attribute [local go_sem high] eqK neqK guardK run_store_complex

/-- what a break is, wherever its keys lie -/
def Br.core (b : Br) : Nat × Nat × Int × Bool × List Ky := (b.a, b.b, b.ver, b.all, b.ks)
theorem Br.say_core {b c : Br} (h : b.core = c.core) : b.say = c.say := by
  unfold Br.core at h
  unfold Br.say
  simp only [Prod.mk.injEq] at h
  rw [h.2.1, h.2.2.1, h.2.2.2.1, h.2.2.2.2]
theorem say_cores {l m : List Br} (h : l.map Br.core = m.map Br.core) : l.map Br.say = m.map Br.say := by
  induction l generalizing m with
  | nil => cases m with | nil => rfl | cons _ _ => cases h
  | cons a l ih =>
    cases m with
    | nil => cases h
    | cons b m =>
      simp only [List.map_cons, List.cons.injEq] at h
      rw [List.map_cons, List.map_cons, Br.say_core h.1, ih h.2]
/-- breaks in memory of a call's own -/
structure Brs (w : World) (base : Nat) (v : Value) (bs : List Br) : Prop where
  row : RowB w base v bs
  each : ∀ b ∈ bs, RowK w base b.v b.ks
theorem Brs.moved {w w' : World} {base : Nat} {v : Value} {bs : List Br} (h : Brs w base v bs) (hv : ∀ k, v.ownBlock = some k → w'.heap[k]? = w.heap[k]?) (he : ∀ b ∈ bs, ∀ k, b.v.ownBlock = some k → w'.heap[k]? = w.heap[k]?) : Brs w' base v bs := ⟨h.row.moved hv, fun b hb => (h.each b hb).moved (he b hb)⟩
theorem Brs.below {w w' : World} {base : Nat} {v : Value} {bs : List Br} (h : Brs w base v bs) (hb : Below w.heap.size w w') : Brs w' base v bs := ⟨h.row.below hb, fun b hm => (h.each b hm).below hb⟩
/-- a loop's copy so far -/
structure Cp (w wr : World) (base : Nat) (v : Value) (bs D : List Br) (n j : Nat) : Prop where
  row : wr.ownsRow w.heap.size 57 4 v n (bc D)
  len : D.length = n
  core : D.map Br.core = bs.map Br.core
  low : ∀ (m : Nat) (b : Br), m < j → D[m]? = some b → RowK wr w.heap.size b.v b.ks
  high : ∀ m, j ≤ m → D[m]? = bs[m]?
  below : Below w.heap.size w wr
theorem map_set_same {D : List Br} {j : Nat} {x y : Br} (h : D[j]? = some x) (hc : y.core = x.core) : (D.set j y).map Br.core = D.map Br.core := by
  rw [List.map_set]
  apply List.ext_getElem?
  intro i
  rw [List.getElem?_set]
  by_cases e : j = i
  · subst e
    rw [if_pos rfl, List.getElem?_map, h, if_pos (by rw [List.length_map]; exact (List.getElem?_eq_some_iff.1 h).1), hc]; rfl
  · rw [if_neg e]
theorem Cp.step {w wr w1 : World} {base g n j cv : Nat} {bs D : List Br} {x : Br} {va : Option Addr} {vn vc : Nat} (h : Cp w wr base (.slice (some ⟨g, 0, none⟩) n cv) bs D n j) (hx : D[j]? = some x) (hj : j < n) (hb : Below wr.heap.size wr w1) (hr : RowK w1 wr.heap.size (.slice va vn vc) x.ks) :
    Cp w (w1.setCell ⟨g, j * 4 + 3, none⟩ (.slice va vn vc)) base (.slice (some ⟨g, 0, none⟩) n cv) bs (D.set j { x with va := va, vn := vn, vc := vc }) n (j + 1) := by
  have h1 : w1.ownsRow w.heap.size 57 4 (.slice (some ⟨g, 0, none⟩) n cv) n (bc D) := owns_below h.row hb
  have tg : Tag w1 g 57 := Tag.own h1 rfl
  have hg : w.heap.size ≤ g := (owns_cells h.row).2.2.2.2.1
  refine ⟨?_, by rw [List.length_set]; exact h.len, ?_, fun m b hm hb' => ?_, fun m hm => ?_, (chainB h.below hb).setCell (p := ⟨g, j * 4 + 3, none⟩) hg _⟩
  · rw [← bc_put D j va vn vc x hx]
    exact (h1.stored (j * 4 + 3) (.slice va vn vc)).1
  · rw [map_set_same (y := { x with va := va, vn := vn, vc := vc }) hx rfl]; exact h.core
  · rw [List.getElem?_set] at hb'
    by_cases e : j = m
    · rw [if_pos e, if_pos (by rw [h.len]; omega)] at hb'
      cases hb'
      have hr' : RowK w1 w.heap.size (.slice va vn vc) x.ks := owns_le hr h.below.size
      exact hr'.moved fun k hk => heap_set_ne ((Tag.own hr' hk).ne tg (by decide))
    · rw [if_neg e] at hb'
      have h2 := (h.low m b (by omega) hb').below hb
      exact h2.moved fun k hk => heap_set_ne ((Tag.own h2 hk).ne tg (by decide))
  · rw [List.getElem?_set_ne (by omega)]; exact h.high m (by omega)
set_option maxHeartbeats 1000000 in
theorem copied_p (v : Value) (bs : List Br) (base : Nat) (w : World) (h : Brs w base v bs) (hl : bs.length ≤ 1000000) (hs : ∀ b ∈ bs, b.ks.length * 24 ≤ LK) :
    Calls Try.prog 49 #[v] w fun e w' => ∃ v', e = .returned v' ∧ ∃ bs', Brs w' w.heap.size v' bs' ∧ bs'.map Br.core = bs.map Br.core ∧ Below w.heap.size w w' := by
  obtain ⟨a, cap, rfl⟩ := owns_len h.row
  have hcl := clone_b _ bs base w h.row hl
  obtain ⟨n, hn⟩ : ∃ n, bs.length = n := ⟨_, rfl⟩
  have H : Hid ((∀ b ∈ bs, RowK w base b.v b.ks) ∧ (∀ b ∈ bs, b.ks.length * 24 ≤ LK) ∧ bs.length = n) := ⟨h.each, hs, hn⟩
  rw [hn] at hl hcl ⊢
  clear h hs hn
  go_enter Try.func49, Try.ntmps49
  go_wp2_with (go_at_call 63; refine hcl.mono ?_; rintro x w1 ⟨v', rfl, hr, hb⟩; have HR : Hid (RowB w1 w.heap.size v' bs) := hr; obtain ⟨av, cv, rfl⟩ := owns_len hr; rw [H.out.2.2] at HR ⊢; clear hr)
  go_loopw [4, 9] (fun _ s9 wr => ∃ (j : Nat) (D : List Br), s9 = .int .i64 j ∧ j ≤ n ∧ Hid (Cp w wr base (.slice av n cv) bs D n j)) (fun _ s9 _ => n - (intOf s9).toNat)
  case atStart => exact ⟨0, bs, rfl, Nat.zero_le _, ⟨by have := HR.out; unfold RowB at this; rw [H.out.2.2] at this; exact this, H.out.2.2, rfl, fun m b hm => absurd hm (by omega), fun _ _ => rfl, hb⟩⟩
  case round =>
    obtain ⟨j, D, rfl, hj, HC⟩ := hrel
    by_cases hlt : j < n
    · obtain ⟨x, hx⟩ : ∃ x, D[j]? = some x := ⟨_, List.getElem?_eq_getElem (by rw [HC.out.len]; exact hlt)⟩
      have hbx : bs[j]? = some x := by rw [← HC.out.high j (Nat.le_refl _)]; exact hx
      have hm := List.mem_of_getElem? hbx
      obtain ⟨N, hN⟩ : ∃ N, n = N + 1 := ⟨n - 1, by omega⟩
      have hrow := HC.out.row
      rw [hN] at hrow
      obtain ⟨g, cap', e'⟩ := owns_form hrow
      cases e'
      rw [← hN] at hrow
      obtain ⟨wc, wf, -, -, -, wg⟩ := owns_cells hrow
      obtain ⟨-, -, -, l3⟩ := bc_get D j x hx
      have x3 := wc _ _ l3
      unfold Br.v at x3
      have hck := clone_k _ x.ks wr ((H.out.1 x hm).below HC.out.below).rd (H.out.2.1 x hm)
      unfold Br.v at hck
      have HX : Hid (D[j]? = some x) := hx
      have hltz : (j : Int) < (n : Int) := by omega
      clear hrow wc l3 hbx hm hx hN
      go_wp2_with (go_at_call 47; refine hck.mono ?_; rintro y w2 ⟨v2, rfl, hr2, hb2⟩; obtain ⟨av2, cv2, rfl⟩ := owns_len hr2; have x3' := (hb2.cell (p := ⟨g, j * 4 + 3, none⟩) wg).trans x3; have xf := fun o => (hb2.frozen (p := ⟨g, o, none⟩) wg).trans (wf o); clear x3 wf)
      exact ⟨⟨j + 1, _, by simp, by omega, HC.out.step HX.out hlt hb2 hr2⟩, by simp [intOf]; omega⟩
    · obtain rfl : j = n := by omega
      have hltz : ¬ (j : Int) < (j : Int) := by omega
      go_wp2
      go_ret
      have hC := HC.out
      refine ⟨_, rfl, D, ⟨?_, fun b hb' => ?_⟩, hC.core, hC.below⟩
      · show World.ownsRow _ _ _ _ _ _ _
        rw [hC.len]; exact hC.row
      · obtain ⟨m, hm⟩ := List.getElem?_of_mem hb'
        exact hC.low m b (by have := (List.getElem?_eq_some_iff.1 hm).1; rw [hC.len] at this; exact this) hm
end Go.Proofs.Ytaofhjckliobpaa
