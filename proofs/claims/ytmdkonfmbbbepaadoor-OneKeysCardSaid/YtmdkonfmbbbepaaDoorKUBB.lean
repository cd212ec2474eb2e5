/-
  Two operations of a drawn region that may come next. No condition.
-/
import Derived.Laws.Tables
import Derived.Test.YtmdkonfmbbbepaaDoorKUBA
set_option linter.unusedVariables false
set_option linter.unusedVariables false
namespace Go.Proofs.YtmdkonfmbbbepaaDoor
open Go
section
variable {P : Program} {ops : Array Oper} {Q : Exit → Act → World → Prop} {md : Region.Mode} {S : World → Prop}
theorem arC2 {fuel : Nat} {listed : Array Bool} {a : Act} {w : World} {i j : Nat} {o o2 : Oper}
    (h : ∀ K' : Act → World → Prop, Shut (∀ a w, S w → (S w → wpAnyH P md ops Q S fuel (listed.setIfInBounds i true) a w) → K' a w) → if Region.wanted o (yielded ops a.tmps) = true then Oper.wp P o a w K' Q else K' (a.put o.dst undef) w)
    (h2 : ∀ K' : Act → World → Prop, Shut (∀ a w, S w → (S w → wpAnyH P md ops Q S fuel (listed.setIfInBounds j true) a w) → K' a w) → if Region.wanted o2 (yielded ops a.tmps) = true then Oper.wp P o2 a w K' Q else K' (a.put o2.dst undef) w)
    (ho : ops[i]? = some o := by (simp only [zD, zE, zF]; rfl)) (ho2 : ops[j]? = some o2 := by (simp only [zD, zE, zF]; rfl)) : AllReadyH P md ops Q S fuel listed a w [i, j] := AllReadyH.cons ho h (AllReadyH.cons ho2 h2 AllReadyH.nil)
end
end Go.Proofs.YtmdkonfmbbbepaaDoor
