/-
  The contract of the document's own Attrs (layer topic).
-/
import Derived.Test.YtcmkmdghekkkhaaDoorTpPairs
import Derived.Test.YtcmkmdghekkkhaaDoorRg
set_option linter.unusedVariables false
namespace Go.Proofs.YtcmkmdghekkkhaaDoor
open Go.RowKit Go.Rst Go.Tp
set_option maxRecDepth 100000 in
set_option maxHeartbeats 1000000 in
theorem attrs_any (l : List UInt8) (hl : l.length ≤ 1000000) (w : World) : Calls Tryd.prog 73 #[sv l] w fun e w' => e = .returned (.bool (attrsB l)) ∧ Below w.heap.size w w' := by
  go_enter Tryd.func73, Tryd.ntmps73
  have HPA := Lib.hid (pairs_any l hl w)
  go_wp2_with fail
  go_at_call 95
  refine HPA.out.mono ?_
  rintro e w1 ⟨v, rfl, hown, hb⟩
  have HB := Lib.hid hb
  clear hown hb
  go_wp2
  go_ret
  exact ⟨rfl, HB.out⟩
theorem contains_succ {b : List (List UInt8)} {k : Nat} (hk : k < b.length) (x : List UInt8) : (b.take (k + 1)).contains x = ((b.take k).contains x || x == b[k]) := by
  rw [List.take_succ_eq_append_getElem hk]
  simp only [List.contains_eq_any_beq, List.any_append, List.any_cons, List.any_nil, Bool.or_false]
end Go.Proofs.YtcmkmdghekkkhaaDoor
