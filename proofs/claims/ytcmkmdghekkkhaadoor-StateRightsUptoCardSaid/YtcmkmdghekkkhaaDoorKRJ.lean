/-
  The contract of the document's own Attrs (layer topic).
-/
import Derived.Test.YtcmkmdghekkkhaaDoorKRB
import Derived.Test.YtcmkmdghekkkhaaDoorKRI
set_option linter.unusedVariables false
set_option linter.unusedVariables false
namespace Go.Proofs.YtcmkmdghekkkhaaDoor
open Go.RowKit Go.Rst Go.Tp
set_option maxRecDepth 100000 in
set_option maxHeartbeats 1000000 in
theorem attrs_any (l : List UInt8) (hl : l.length ≤ 1000000) (w : World) : Calls Tryd.prog 73 #[sv l] w fun e w' => e = .returned (.bool (attrsB l)) ∧ Below w.heap.size w w' := by
  go_enter Tryd.func73, Tryd.ntmps73
  have HPA := Lib.hid (pairs_any l hl w)
  go_wp2_with fail
  go_at_call 95
  refine HPA.out.mono ?_
  rintro e w1 ⟨v, rfl, hown, hb⟩
  have HB := Lib.hid hb
  clear hown hb
  go_wp2
  go_ret
  exact ⟨rfl, HB.out⟩
end Go.Proofs.YtcmkmdghekkkhaaDoor
