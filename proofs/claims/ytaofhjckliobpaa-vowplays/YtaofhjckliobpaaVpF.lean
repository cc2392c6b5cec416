/- in: is a key one of a list's; first. -/
import Derived.Test.YtaofhjckliobpaaVpE
namespace Go.Proofs.Ytaofhjckliobpaa
open Go.RowKit Go.Shelf Go.Sort
attribute [local go_sem high] eqK neqK guardK

theorem RdK.arg {w : World} {v : Value} {ks : List Ky} (h : RdK w v ks) (hl : ks.length * 24 ≤ LK) : ArgK w v ks := by
  obtain ⟨a, cap, rfl, h⟩ := h
  refine ⟨a, cap, rfl, hl, ?_⟩
  rcases h with ⟨_, h⟩ | h
  · exact .inl h
  · exact .inr h
theorem ArgK.form {w : World} {v : Value} {ks : List Ky} (h : ArgK w v ks) : ∃ a cap, v = .slice a ks.length cap := by
  obtain ⟨a, cap, e, _⟩ := h
  exact ⟨a, cap, e⟩
theorem ArgK.key {w : World} {n cap i : Nat} {a : Option Addr} {ks : List Ky} {p : Ky} (h : ArgK w (.slice a n cap) ks) (hi : ks[i]? = some p) : ∃ g off, a = some ⟨g, off, none⟩ ∧ g < w.heap.size ∧ w.cell? ⟨g, off + i * 2, none⟩ = some (.int .i64 p.d) ∧ w.cell? ⟨g, off + i * 2 + 1, none⟩ = some (.string p.nm) := by
  obtain ⟨a', cap', e, -, h⟩ := h
  cases e
  rcases h with rfl | ⟨g, off, rfl, hg, hc⟩
  · simp at hi
  · obtain ⟨l0, l1⟩ := kc_get ks i p hi
    exact ⟨g, off, rfl, hg, hc _ _ l0, by rw [Nat.add_assoc]; exact hc _ _ l1⟩
theorem ArgK.take {w : World} {n cap m : Nat} {a : Option Addr} {ks : List Ky} (h : ArgK w (.slice a n cap) ks) (hm : m ≤ n) : ArgK w (.slice a m cap) (ks.take m) := by
  obtain ⟨a', cap', e, hl, h⟩ := h
  cases e
  refine ⟨a, cap, by rw [List.length_take, Nat.min_eq_left hm], by rw [List.length_take]; omega, ?_⟩
  rcases h with rfl | ⟨g, off, rfl, hg, hc⟩
  · exact .inl (by simp)
  · refine .inr ⟨g, off, rfl, hg, fun j u hu => ?_⟩
    rw [← kc_take, List.getElem?_take] at hu
    split at hu
    · exact hc j u hu
    · cases hu
theorem inK_at {ks : List Ky} {k x : Ky} {j : Nat} (h : ks[j]? = some x) (hq : eqKy x k = true) : inK ks k = true := (inK_iff ks k).2 (by rw [← (eqKy_iff x k).1 hq]; exact List.mem_of_getElem? h)
set_option maxHeartbeats 2000000 in
theorem in_any (v : Value) (k : Ky) (ks : List Ky) (w : World) (h : ArgK w v ks) :
    Calls Try.prog 32 #[v, k.agg] w fun e w' => e = .returned (.bool (inK ks k)) ∧ Below w.heap.size w w' := by
  obtain ⟨a, cap, rfl⟩ := h.form
  obtain ⟨n, hn⟩ : ∃ n, ks.length = n := ⟨_, rfl⟩
  have hl13 : n ≤ 10000000000000 := by obtain ⟨_, _, _, hl, _⟩ := h; omega
  rw [hn] at h ⊢
  have HR : Hid (ArgK w (.slice a n cap) ks ∧ ks.length = n) := ⟨h, hn⟩
  clear h hn
  unfold Ky.agg
  go_enter Try.func32, Try.ntmps32
  go_wp2
  go_loopw [5] (fun i wr => ∃ j : Nat, j ≤ n ∧ i = .int .i64 j ∧ (∀ (m : Nat) (e : Ky), m < j → ks[m]? = some e → eqKy e k = false) ∧ wr.heap[w.heap.size]? = some (.cells #[.int .i64 k.d, .string k.nm] 36 (0, 0)) ∧ Below w.heap.size w wr) (fun i _ => n - (intOf i).toNat)
  case atStart => exact ⟨0, Nat.zero_le _, rfl, fun m e hm => absurd hm (by omega), heap_new _ _, below_alloc _ _⟩
  case round =>
    obtain ⟨j, hj, rfl, hno, hbx, hb⟩ := hrel
    by_cases hlt : j < n
    · obtain ⟨x, hx⟩ : ∃ x, ks[j]? = some x := ⟨_, List.getElem?_eq_getElem (by rw [HR.out.2]; exact hlt)⟩
      obtain ⟨g, off, rfl, -, x0, x1⟩ := (HR.out.1.below hb).key hx
      have hki : (j : Int) < (n : Int) := by omega
      have b0 := cell_of hbx 0
      have b1 := cell_of hbx 1
      simp at b0 b1
      cases hq : eqKy x k with
      | true =>
        have HE : Hid (inK ks k = true) := inK_at hx hq
        clear hx hno hbx
        go_upto_region 4 with fail
        go_quiet (fail)
        go_wp2
        go_ret
        exact ⟨by rw [HE.out]; rfl, below_drewN hb _⟩
      | false =>
        have HT : Hid (∀ (m : Nat) (e : Ky), m < j + 1 → ks[m]? = some e → eqKy e k = false) := by
          intro m e hm he
          rcases Nat.lt_or_ge m j with h | h
          · exact hno m e h he
          · obtain rfl : m = j := by omega
            rw [hx] at he; cases he; exact hq
        have HB : Hid (wr.heap[w.heap.size]? = some (.cells #[.int .i64 k.d, .string k.nm] 36 (0, 0))) := hbx
        clear hx hno hbx
        go_upto_region 4 with fail
        go_quiet (fail)
        go_wp2
        exact ⟨⟨j + 1, by omega, by simp, HT.out, HB.out, below_drewN hb _⟩, by simp [intOf]; omega⟩
    · have hkl : j = n := by omega
      subst hkl
      have HE : Hid (inK ks k = false) := inK_no fun hm => by
        obtain ⟨m, hm⟩ := List.getElem?_of_mem hm
        have := hno m k (by have := (List.getElem?_eq_some_iff.1 hm).1; rw [HR.out.2] at this; exact this) hm
        rw [eqKy_self] at this; cases this
      clear hno
      go_wp2
      go_ret
      exact ⟨by rw [HE.out]; rfl, hb⟩
end Go.Proofs.Ytaofhjckliobpaa
