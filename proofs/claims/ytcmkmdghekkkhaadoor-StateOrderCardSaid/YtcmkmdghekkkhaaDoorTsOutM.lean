/-
  Plain mathematics of leaving out (layer state). No program.
-/
import Derived.Test.YtcmkmdghekkkhaaDoorTsM
set_option linter.unusedVariables false
namespace Go.Ts
theorem outS_take {l : List Sub} {id : Int} {k : Nat} (hk : k < l.length) : outS (l.take (k + 1)) id = outS (l.take k) id ++ (if l[k].id = id then [] else [l[k]]) := by
  unfold outS
  rw [List.take_succ_eq_append_getElem hk, List.filter_append]
  congr 1
  by_cases h : l[k].id = id
  · rw [if_pos h]; simp [h]
  · rw [if_neg h]; simp [h]
theorem outS_len (l : List Sub) (id : Int) : (outS l id).length ≤ l.length := List.length_filter_le _ _
end Go.Ts
