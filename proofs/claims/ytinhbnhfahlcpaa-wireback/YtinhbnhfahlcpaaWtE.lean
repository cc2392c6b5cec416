/- The walk of the law WireBack: it returns true. -/
import Derived.Test.YtinhbnhfahlcpaaWtA
import Derived.Test.YtinhbnhfahlcpaaWtB
import Derived.Test.YtinhbnhfahlcpaaWtC
namespace Go.Proofs.Ytinhbnhfahlcpaa
open Go.RowKit Go.Lib

theorem walk_WireBack (m : Mm) (v : Value) (l : List Int) (w : World) (hm : ArgM w m) (hr : RB w v l) (hlen : l.length ≤ LB) (hbyt : Byt l) :
    Calls Try.prog 8 #[.agg m.arr, v] w fun e w' => e = .returned (.bool true) ∧ Below w.heap.size w w' := by
  by_cases hD : ∃ m', msgOk m' ∧ msgB m' = l
  · obtain ⟨m', h1, h2⟩ := hD
    cases hP : m.plain with
    | false => exact back_01 m v l w hm hr hlen hbyt hP m' h1 h2
    | true =>
      obtain ⟨av, cv, rfl, _⟩ := id hr
      exact back_1 m av cv l w hm hP (fun wc hc => back2_1 av cv l w wc hr hlen hbyt m' h1 h2 hc)
  · have hno : ∀ m, msgOk m → msgB m ≠ l := fun m h1 h2 => hD ⟨m, h1, h2⟩
    cases hP : m.plain with
    | false => exact back_00 m v l w hm hr hlen hbyt hP hno
    | true =>
      obtain ⟨av, cv, rfl, _⟩ := id hr
      exact back_1 m av cv l w hm hP (fun wc hc => back2_0 av cv l w wc hr hlen hbyt hno hc)
end Go.Proofs.Ytinhbnhfahlcpaa
