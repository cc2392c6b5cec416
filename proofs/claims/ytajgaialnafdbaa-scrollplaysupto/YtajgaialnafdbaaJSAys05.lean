/- The contracts of package scroll's labels. -/
import Derived.Test.YtajgaialnafdbaaJSAys04
namespace Go.Proofs.Ytajgaialnafdbaa
section
open Go.RowKit

def lab (g r k c : Nat) : Value := .agg #[.int .i64 g, .int .i64 r, .int .i64 k, .int .i64 c]
theorem box4 {w w1 : World} {x0 x1 x2 x3 : Int} {t : TypeId} (h : Below (w.heap.size + 1) (w.alloc (.cells #[.int .i64 x0, .int .i64 x1, .int .i64 x2, .int .i64 x3] t)) w1) :
    w1.cell? ⟨w.heap.size, 0, none⟩ = some (.int .i64 x0) ∧ w1.cell? ⟨w.heap.size, 1, none⟩ = some (.int .i64 x1) ∧ w1.cell? ⟨w.heap.size, 2, none⟩ = some (.int .i64 x2) ∧ w1.cell? ⟨w.heap.size, 3, none⟩ = some (.int .i64 x3) := by
  refine ⟨?_, ?_, ?_, ?_⟩ <;> (rw [h.cell (by simp)]; simp [go_sem])
set_option maxRecDepth 100000 in
set_option maxHeartbeats 1000000 in
theorem head_any (g r k c : Nat) (w : World) (hg : g < 4294967296) (hr : r < 4294967296) :
    Calls Try.prog 72 #[.agg #[.int .i64 g, .int .i64 r, .int .i64 k, .int .i64 c]] w fun e w' => ∃ v', e = .returned v' ∧ OwnB w' w.heap.size v' (headL g r k c) ∧ Below w.heap.size w w' := by
  go_enter Try.func72, Try.ntmps72
  go_wp2_with (first
    | (go_at_call 74; have _q := ho1; refine (appNum_any _ _ r (w.heap.size + 1) _ (.inl ho1) (by omega) hr (by simp [n4_len])).mono ?_; rintro e w2 ⟨v2, rfl, ho2, hb2⟩; have hs2 := hb2.size; obtain ⟨n0, n1, n2, n3⟩ := box4 (hb1.trans hb2); clear m0 m1 m2 m3)
    | (go_at_call 74; refine (appNum_any _ _ g (w.heap.size + 1) _ (.inl (OwnB.nil _ _)) (by simp) hg (by decide)).mono ?_; rintro e w1 ⟨v1, rfl, ho1, hb1⟩; have hs1 := hb1.size; simp at hs1; obtain ⟨m0, m1, m2, m3⟩ := box4 hb1)
    | (at_builtin; refine wpList_appB rfl _ _ rfl (w.heap.size + 1) _ _ rfl (ho2.alloc _) _ [_, _] rfl (RB.two _ _ _ _) (by simp [n4_len]) (by simp; omega) ?_; intro v3 w3 ho3 hb3 _; have hs3 := hb3.size; simp at hs3))
  go_ret
  refine ⟨_, rfl, ?_, ?_⟩
  · have h1 : ((k : Int) % 256) = ((k % 256 : Nat) : Int) := by omega
    have h2 : ((c : Int) % 256) = ((c % 256 : Nat) : Int) := by omega
    unfold headL
    rw [← h1, ← h2]
    rw [List.nil_append, List.append_assoc] at ho3
    exact ho3.le (by omega)
  · have k1 : Below w.heap.size w w1 := below_al (hb1.mono (by omega)) (by omega)
    have k2 : Below w.heap.size w2 w3 := below_al (hb3.mono (by omega)) (by omega)
    exact (k1.trans (hb2.mono (by omega))).trans k2

set_option maxRecDepth 100000 in
set_option maxHeartbeats 1000000 in
theorem block_any (g r k c : Nat) (v : Value) (p : List Int) (w : World) (hg : g < 4294967296) (hr : r < 4294967296) (hv : RB w v p) (hp : p.length ≤ 53) :
    Calls Try.prog 58 #[.agg #[.int .i64 g, .int .i64 r, .int .i64 k, .int .i64 c], v] w fun e w' => ∃ v', e = .returned v' ∧ OwnB w' w.heap.size v' (pieceB g r k c p) ∧ Below w.heap.size w w' := by
  obtain ⟨av, cv, rfl, _⟩ := id hv
  have H : Hid (RB w (.slice av p.length cv) p) := hv
  clear hv
  go_enter Try.func58, Try.ntmps58
  go_wp2_with (first
    | (go_at_call 72; refine (head_any g r k c _ hg hr).mono ?_; rintro e w1 ⟨v1, rfl, ho1, hb1⟩; have hs1 := hb1.size; simp only [World.size_alloc] at hs1 ho1 hb1; have B1 : Below w.heap.size w w1 := below_al (hb1.mono (by omega)) (by omega))
    | (at_builtin; have _q := ho2; refine wpList_appB rfl _ _ rfl (w.heap.size + 1) _ _ rfl ho2 _ p rfl (H.out.below (B1.trans B2)) (by simp [headL_len]; omega) (by omega) ?_; intro v3 w3 ho3 hb3 _; have hs3 := hb3.size)
    | (at_builtin; refine wpList_appB rfl _ _ rfl (w.heap.size + 1) _ _ rfl (ho1.alloc _) _ [_] rfl (RB.one _ _ _) (by simp [headL_len]) (by simp; omega) ?_; intro v2 w2 ho2 hb2 _; have hs2 := hb2.size; simp only [World.size_alloc] at hs2; have B2 : Below w.heap.size w1 w2 := below_al (hb2.mono (by omega)) (by omega))
    | (go_at_call 73; refine (filled_any _ _ _ ho3.rb (by simp [headL_len]; omega)).mono ?_; rintro e w4 ⟨v4, rfl, ho4, hb4⟩))
  go_ret
  refine ⟨_, rfl, ?_, ?_⟩
  · have h1 : (p.length : Int) = ((p.length % 256 : Nat) : Int) := by omega
    unfold pieceB
    rw [← h1]
    rw [List.append_assoc] at ho4
    exact ho4.le (by omega)
  · exact ((B1.trans B2).trans (hb3.mono (by omega))).trans (hb4.mono (by omega))
theorem countIn_any (v : Value) (b : List Int) (w : World) (hv : RB w v b) (hb : Byt b) (hl : b.length = 64) :
    Calls Try.prog 70 #[v] w fun e w' => e = .returned (.int .i64 (gB b 9 : Nat)) ∧ w' = w := by
  obtain ⟨g, off, cap, rfl, hg, hc⟩ := hv.cells (by rintro rfl; simp at hl)
  have hx : b[9]? = some (b[9]'(by omega)) := List.getElem?_eq_getElem (by omega)
  have d1 := hc 9 _ hx
  rw [gB_get hx (hb _ (List.mem_of_getElem? hx)).1]
  have hb' := hb _ (List.mem_of_getElem? hx)
  obtain ⟨x, hx'⟩ : ∃ x, b[9]'(by omega) = x := ⟨_, rfl⟩
  rw [hx'] at d1 hb' ⊢
  rw [hl]
  clear hx hc hv hx' hl hb
  go_enter Try.func70, Try.ntmps70
  go_wp2
  go_ret
  exact ⟨rfl, rfl⟩
/-- no longer than its room -/
def Fit (v : Value) : Prop := ∃ a n c, v = .slice a n c ∧ n ≤ c
theorem OwnB.fit {w : World} {base : Nat} {v : Value} {l : List Int} (h : OwnB w base v l) : Fit v := by
  rcases h.form with ⟨rfl, _⟩ | ⟨g, cap, rfl, _, _, hc, _⟩
  · exact ⟨_, _, _, rfl, Nat.le_refl _⟩
  · exact ⟨_, _, _, rfl, hc⟩
theorem RB.sub {w : World} {g off n cap : Nat} {l : List Int} (h : ∀ i x, l[i]? = some x → w.cell? ⟨g, off + i, none⟩ = some (.int .u8 x)) (hg : g < w.heap.size) (k : Nat) {v : Value} (hv : v = .slice (some ⟨g, off + k, none⟩) n cap) (hn : k + n ≤ l.length) : RB w v ((l.drop k).take n) := by
  subst hv
  refine ⟨some ⟨g, off + k, none⟩, cap, by rw [List.length_take, List.length_drop, Nat.min_eq_left (by omega)], .inr ⟨g, off + k, rfl, hg, fun i x hx => ?_⟩⟩
  rw [List.getElem?_take] at hx
  split at hx
  · rw [List.getElem?_drop] at hx
    rw [Nat.add_assoc]; exact h _ x hx
  · cases hx
set_option maxRecDepth 100000 in
theorem cut_r (v : Value) (l : List Int) (i : Nat) (w : World) (hv : RB w v l) (hf : Fit v) (hi : 53 * i < l.length) (hl : l.length ≤ 424) :
    Calls Try.prog 59 #[v, .int .i64 i] w fun e w' => ∃ v', e = .returned v' ∧ RB w v' (cutP l i) ∧ w' = w := by
  obtain ⟨g, off, cap, rfl, hg, hc⟩ := hv.cells (by rintro rfl; simp at hi)
  obtain ⟨a', n', c', e, hcap⟩ := hf
  cases e
  obtain ⟨T, hT⟩ : ∃ T, min (i * 53 + 53) l.length = T := ⟨_, rfl⟩
  have hmin : min ((i : Int) * 53 + 53) (l.length : Int) = (T : Int) := by omega
  have HC : Hid (∀ i x, l[i]? = some x → w.cell? ⟨g, off + i, none⟩ = some (.int .u8 x)) := hc
  have h1 : (0 : Int) ≤ (T : Int) ∧ (T : Int) ≤ (cap : Int) := by omega
  have h2 : ((i : Int) * 53 ≤ (T : Int)) := by omega
  have h2' : (0 : Int) ≤ (i : Int) * 53 ∧ (i : Int) * 53 ≤ (T : Int) := by omega
  have h3 : ¬ (T = i * 53) := by omega
  have h4 : ((i : Int) * 53).toNat = i * 53 := by omega
  have HT : Hid (min (i * 53 + 53) l.length = T) := hT
  clear hc hv hT
  go_enter Try.func59, Try.ntmps59
  go_wp2
  go_ret
  refine ⟨_, rfl, ?_, rfl⟩
  have hT := HT.out
  have e : cutP l i = (l.drop (i * 53)).take (T - i * 53) := by
    unfold cutP
    rw [Nat.mul_comm 53 i]
    apply List.ext_getElem?
    intro j
    rw [List.getElem?_take, List.getElem?_take, List.getElem?_drop]
    by_cases h : j < T - i * 53
    · rw [if_pos h, if_pos (by omega)]
    · rw [if_neg h]
      split
      · exact List.getElem?_eq_none (by omega)
      · rfl
  rw [e]
  exact RB.sub HC.out hg (i * 53) rfl (by omega)

/-- the piece of a block -/
theorem pcIn_no {g r k c : Nat} {b : List Int} (h : ¬ (1 ≤ c ∧ c ≤ 8 ∧ b.take 10 = headL g r k c ∧ gB b 10 ≤ 53 ∧ (gB b 10 < 53 → k + 1 = c))) : pcIn g r k c b = [] := by unfold pcIn; rw [if_neg h]
theorem pcIn_yes {g r k c : Nat} {b : List Int} (h : 1 ≤ c ∧ c ≤ 8 ∧ b.take 10 = headL g r k c ∧ gB b 10 ≤ 53 ∧ (gB b 10 < 53 → k + 1 = c)) : pcIn g r k c b = (b.drop 11).take (gB b 10) := by unfold pcIn; rw [if_pos h]
theorem byt_pcIn {g r k c : Nat} {b : List Int} (h : Byt b) : Byt (pcIn g r k c b) := by
  unfold pcIn; split
  · exact byt_take (byt_drop h _) _
  · exact byt_nil
theorem pcIn_len {g r k c : Nat} {b : List Int} : (pcIn g r k c b).length ≤ 53 := by
  unfold pcIn; split
  · rename_i h; rw [List.length_take]; omega
  · exact Nat.zero_le _
end
end Go.Proofs.Ytajgaialnafdbaa
