/-
  max of two numbers at a step of a walk. No program.
-/
import Derived.Test.YtcmkmdghekkkhaaDoorBase
set_option linter.unusedVariables false
namespace Go.Proofs.YtcmkmdghekkkhaaDoor
open Go Go.RowKit Go.Rst
theorem wpList_max3 {P : Program} {w : World} {ops : Array Oper} {rest : List Oper} {o : Oper} {a : Act} {Q : Exit → Act → World → Prop} (hgd : o.guard = none) (x y : Operand) (ts : Array TypeId)
    (ho : o.op = .call { callee := .builtin .max, args := #[x, y], argTypes := ts }) {X Y n : Int} (hx : a.eval x = .int .i64 X) (hy : a.eval y = .int .i64 Y)
    (hn : (if Y > X then Y else X) = n) (h : wpList P ops Q rest (a.put o.dst (.int .i64 n)) w) : wpList P ops Q (o :: rest) a w := by
  refine wpList_plain hgd fun K hK => ?_
  unfold Oper.wp execOp
  simp only [ho, resolve, invoke, builtin, Sem.run_bind, Sem.run_pure, Result.andThen_ok, List.map_toArray, List.map_cons, List.map_nil, hx, hy, run_max_int2, hn]
  exact hK _ _ h
end Go.Proofs.YtcmkmdghekkkhaaDoor
