/- Decode, whole. -/
import Derived.Test.YtihjhaafmdobmaaWsF
import Derived.Test.YtihjhaafmdobmaaWsG
namespace Go.Proofs.Ytihjhaafmdobmaa
open Go.RowKit Go.Lib

theorem decode_p (v : Value) (l : List Int) (w : World) (hr : RC w v l) (hl : Byt l) (hlim : l.length ≤ 140737488355328) : Calls Try.prog 29 #[v] w fun e w' => DecR l w w' e := by
  cases h1 : doneB (msgP (some l)).2 with
  | false => exact decode_p1 v l w hr hl hlim h1
  | true =>
    by_cases h2 : msgOk (msgP (some l)).1
    · exact decode_p3 v l w hr hl hlim h1 h2
    · exact decode_p2 v l w hr hl hlim h1 h2
end Go.Proofs.Ytihjhaafmdobmaa
