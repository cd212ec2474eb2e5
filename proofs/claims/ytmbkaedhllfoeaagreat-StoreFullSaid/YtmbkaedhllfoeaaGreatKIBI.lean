/-
 What the program's type table says of the device's types. No condition beyond those that each theorem states.
-/
import Derived.Test.YtmbkaedhllfoeaaGreatProg
import Derived.Test.YtmbkaedhllfoeaaGreatKIA
import Derived.Test.YtmbkaedhllfoeaaGreatKIB
import Derived.Test.YtmbkaedhllfoeaaGreatKIBH
set_option linter.unusedVariables false
namespace Go.Proofs.YtmbkaedhllfoeaaGreat
open Go.RowKit Go.Rst
theorem info121 : (Tryz.prog.info? 121).map (fun i => (i.zero, i.size, i.bytes)) = some (some (.agg (Array.replicate 64 (.int .u8 0))), 64, 64) := by kernel_rfl
theorem info123 : (Tryz.prog.info? 123).map (fun i => (i.zero, i.size, i.bytes)) = some (some (.agg (#[.int .i64 0] ++ Array.replicate 64 (.int .u8 0))), 65, 72) := by kernel_rfl
theorem info3 : (Tryz.prog.info? 3).map (fun i => (i.zero, i.size, i.bytes)) = some (some (.int .i64 0), 1, 8) := by kernel_rfl
end Go.Proofs.YtmbkaedhllfoeaaGreat
