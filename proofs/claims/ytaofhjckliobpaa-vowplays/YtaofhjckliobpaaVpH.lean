/- first: the first key of a list, or none. -/
import Derived.Test.YtaofhjckliobpaaVpG
namespace Go.Proofs.Ytaofhjckliobpaa
open Go.RowKit Go.Shelf Go.Sort
attribute [local go_sem high] eqK neqK guardK

def firstK : List Ky → Ky
  | [] => ⟨0, ⟨#[]⟩⟩
  | k :: _ => k
theorem ret_key {fn : Func} {p : Tmp} (h : fn.results = #[.cell p 36]) (tmps : Array Value) (w : World) (g : Nat) {t : TypeId} {cs : Array Value} {fr : Nat × Nat} (hp : tmps.getD p undef = .pointer (some ⟨g, 0, none⟩)) (hg : w.heap[g]? = some (.cells cs t fr)) (hs : cs.size = 2 := by rfl) :
    (results fn tmps).run Try.prog w = .ok (.agg cs) w :=
  results_cell_row h tmps w g t cs fr _ hp hg Try.underlying36 rfl (by rw [hs]; exact Try.sizeKy)
theorem first_p (v : Value) (ks : List Ky) (w : World) (h : ArgK w v ks) : Calls Try.prog 13 #[v] w fun e w' => e = .returned (firstK ks).agg ∧ Below w.heap.size w w' := by
  obtain ⟨a, cap, rfl⟩ := h.form
  have hl13 : ks.length ≤ 10000000000000 := by obtain ⟨_, _, _, hl, _⟩ := h; omega
  cases ks with
  | nil =>
    clear h
    go_enter Try.func13, Try.ntmps13
    go_wp2
    refine bodyPost_ret (ret_key rfl _ _ _ rfl (heap_new _ _)) rfl ?_
    exact ⟨rfl, below_alloc _ _⟩
  | cons k l =>
    have hk := (h.below (below_alloc w (.cells #[.int .i64 0, .string ⟨#[]⟩] 36))).key (i := 0) (p := k) rfl
    obtain ⟨g, off, hga, -, x0, x1⟩ := hk
    subst hga
    simp only [Nat.zero_mul, Nat.add_zero] at x0 x1
    obtain ⟨N, hN⟩ : ∃ N, (k :: l).length = N := ⟨_, rfl⟩
    have hN1 : 1 ≤ N := by rw [← hN]; simp
    rw [hN] at hl13 ⊢
    have hNz : ((N : Int) == 0) = false := beq_eq_false_iff_ne.2 (by omega)
    have hNp : (0 : Int) < (N : Int) := by omega
    clear h hN
    go_enter Try.func13, Try.ntmps13
    go_wp2
    refine bodyPost_ret (ret_key rfl _ _ _ rfl (heap_new _ _)) rfl ?_
    exact ⟨rfl, below_alloc _ _⟩
end Go.Proofs.Ytaofhjckliobpaa
