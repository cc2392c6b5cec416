/- The walk of the law MarkLasts: it returns true. -/
import Derived.Test.YtiecakeeekeidaaRefSpan
namespace Go.Proofs.Ytiecakeeekeidaa
open Go.RowKit

theorem RowP.below {w w' : World} {a : Option Addr} {n : Nat} {A B : Nat → Int} (h : RowP w a n A B) (hb : Below w.heap.size w w') : RowP w' a n A B := by
  rcases h with h | ⟨b, off, rfl, hs, hc⟩
  · exact .inl h
  · exact .inr ⟨b, off, rfl, Nat.lt_of_lt_of_le hs hb.size, fun i hi => ⟨(hb.cell (by exact hs)).trans (hc i hi).1, (hb.cell (by exact hs)).trans (hc i hi).2.1, (hc i hi).2.2⟩⟩
theorem chain {w W w' : World} (h : Below w.heap.size w W) (hb : Below W.heap.size W w') : Below w.heap.size w w' := h.trans (hb.mono h.size)

theorem last_val (F G : Nat → Nat) (n : Nat) : (∃ v, fval (lastRe (lastF F G n)) = some v) ∧ ∃ v, fval (lastIm (lastF F G n)) = some v := by
  cases h : lastF F G n with
  | none => exact ⟨⟨_, val_zero⟩, ⟨_, val_zero⟩⟩
  | some x =>
    obtain ⟨e, m⟩ := x
    have := lastF_bd F G n e m h
    exact ⟨⟨_, ofInt_val e (by omega)⟩, ⟨_, ofInt_val m (by omega)⟩⟩
theorem box_small (F G : Nat → Nat) (n : Nat) : (boxE (boxF F G n)).natAbs < 2 ^ 53 ∧ (boxN (boxF F G n)).natAbs < 2 ^ 53 := by
  cases h : boxF F G n with
  | none => simp [boxE, boxN]
  | some b =>
    have := box_bd F G n b h
    simp only [boxE, boxN]
    omega

theorem rlast_b (a : Option Addr) (n cap : Nat) (F G : Nat → Nat) (w : World) (hrow : RowC w a n F G) (hlen : n * 16 ≤ 140737488355328) :
    Calls Try.prog 27 #[.slice a n cap] w fun e w' => e = .returned (.tuple #[.complex .f64 (lastRe (lastF F G n)) (lastIm (lastF F G n)), .bool (lastF F G n).isSome]) ∧ Below w.heap.size w w' :=
  (rlast_any a n cap F G w hrow hlen).mono fun e w' ⟨he, m, hw⟩ => ⟨he, by rw [hw]; exact below_drewN (Below.refl _ _) m⟩

set_option maxHeartbeats 2000000 in
theorem walk_MarkLasts (a : Option Addr) (len cap : Nat) (A B : Nat → Int) (w : World) (hrow : RowP w a len A B) (hlen : len * 16 ≤ 140737488351232) :
    Calls Try.prog 8 #[.slice a len cap] w fun e w' => e = .returned (.bool true) ∧ Below w.heap.size w w' := by
  have hB : Below w.heap.size w w := Below.refl _ _
  have hl2 : len * 16 ≤ 140737488355328 := by omega
  obtain ⟨⟨u1, v1⟩, ⟨u2, v2⟩⟩ := last_val (fun i => qt (A i)) (fun i => qt (B i)) len
  have o1 := order_self v1
  have o2 := order_self v2
  obtain ⟨s1, s2⟩ := box_small (fun i => qt (A i)) (fun i => qt (B i)) len
  clear v1 v2
  go_enter Try.func8, Try.ntmps8
  go_wp2_with (first
    | (go_at_call 26; refine (nums_any _ _ _ A B _ (by assumption) hlen).mono ?_; rintro e w' ⟨v, rfl, hown, hb⟩; obtain ⟨a', cap', rfl, hrc⟩ := RowC.of_owns hown; have hr' := RowP.below (by assumption) hb; have hB' := chain (w := w) (by assumption) hb; clear hown hb)
    | (go_at_call 25; refine (last_any _ _ _ _ _ _ (by assumption) hl2).mono ?_; rintro e w' ⟨rfl, rfl⟩)
    | (go_at_call 27; refine (rlast_b _ _ _ _ _ _ (by assumption) hl2).mono ?_; rintro e w' ⟨rfl, hb⟩; have hr' := RowP.below (by assumption) hb; have hB' := chain (w := w) (by assumption) hb; clear hb)
    | (go_at_call 28; refine (span_any _ _ _ _ _ _ (by assumption) hl2).mono ?_; rintro e w' ⟨x, y, rfl, vx, vy, rfl⟩; have o3 : FloatKind.f64.format.order x _ = some .eq := (order_whole vx (ofInt_val _ s1)).trans (by rw [cmp_eq rfl]); have o4 : FloatKind.f64.format.order y _ = some .eq := (order_whole vy (ofInt_val _ s2)).trans (by rw [cmp_eq rfl]); clear vx vy)
    | (go_at_call 29; refine (rspan_any _ _ _ _ _ _ (by assumption) hl2).mono ?_; rintro e w' ⟨rfl, rfl⟩)
    | (go_at_call 15; refine (awake_any _).mono ?_; rintro e w' ⟨rfl, rfl⟩))
  go_ret
  exact ⟨rfl, by assumption⟩

end Go.Proofs.Ytiecakeeekeidaa
