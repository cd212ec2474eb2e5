/-
  A state that choices made may be (layer model).
-/
import Derived.Test.YtodckdkbheapfaaGreatKNEB
import Derived.Test.YtodckdkbheapfaaGreatKNEF
set_option linter.unusedVariables false
set_option linter.unusedVariables false
namespace Go.Proofs.YtodckdkbheapfaaGreat
open Go.RowKit Go.Rst Go.Tp Go.Ts Go.Md
theorem made_rt {c n l : Int} {xs : List Sub} (h : MadeS c n l xs) (hl : xs.length ≤ 6) : Rt ⟨c, n, l, xs⟩ := ⟨h.c0, by have := h.c1; show c ≤ _; omega, h.n0, by have := h.n1; show n ≤ _; omega, h.l0, by have := h.l1; show l ≤ _; omega, by show xs.length ≤ 20; omega, h.so, fun x hx => ⟨by have := (h.ok x hx).2.1; omega, (h.ok x hx).2.2.1, (h.ok x hx).1⟩⟩
end Go.Proofs.YtodckdkbheapfaaGreat
