/- The walk of the law MarkNexts: it returns true. -/
import Derived.Test.YtiecakeeekeidaaRefs
import Derived.RowKit3
namespace Go.Proofs.Ytiecakeeekeidaa
open Go.RowKit

set_option maxHeartbeats 1000000 in
theorem walk_MarkNexts (a b : Int) (ha : (Lit.int .i64 a).wf = true) (hb : (Lit.int .i64 b).wf = true) (w : World) :
    Calls Try.prog 6 #[.agg #[.int .i64 a, .int .i64 b]] w fun e w' => e = .returned (.bool true) ∧ Below w.heap.size w w' := by
  have hn := fun w => num_any a b w ha hb
  obtain ⟨u, hu⟩ := (qt_eq a ha).2
  obtain ⟨v, hv⟩ := (qt_eq b hb).2
  obtain ⟨c, d, x, y, i, h1, h2, o1, o2⟩ := nexts_agree _ _ u v hu hv
  obtain ⟨c', d', x', y', i', h3, h4, o3, o4⟩ := restarts_agree _ (qt b) u hu
  clear ha hb hu hv
  go_enter Try.func6, Try.ntmps6
  go_wp2_with (first
      | (go_at_call 16; refine (hn _).mono ?_; rintro e w' ⟨rfl, rfl⟩)
      | (go_at_call 18; refine (h1 _).mono ?_; rintro e w' ⟨rfl, rfl⟩)
      | (go_at_call 20; refine (h2 _).mono ?_; rintro e w' ⟨rfl, rfl⟩)
      | (go_at_call 19; refine (h3 _).mono ?_; rintro e w' ⟨rfl, rfl⟩)
      | (go_at_call 21; refine (h4 _).mono ?_; rintro e w' ⟨rfl, rfl⟩)
      | (go_at_call 15; refine (awake_any _).mono ?_; rintro e w' ⟨rfl, rfl⟩))
  go_ret
  exact ⟨rfl, by repeat (first | exact Below.refl _ _ | refine Below.alloc ?_ (by simp) _)⟩

end Go.Proofs.Ytiecakeeekeidaa
