/-
  The contract of crc.table: it makes an array whose places hold what eight steps make of each byte.
-/
import Derived.Below
import Derived.Laws.OwnMore
import Derived.Deep.Draws
import Derived.Laws.Rows
import Derived.Test.YtmdkonfmbbbepaaDoorKUB
set_option linter.unusedVariables false
namespace Go.Proofs.YtmdkonfmbbbepaaDoor
open Go.RowKit Go.Rst Go.Crc
def IsTab (cs : Array Value) : Prop := cs.size = 256 ∧ cs.all (·.oneCell') = true ∧ ∀ j, j < 256 → cs[j]? = some (.int .u32 (ceight j : Nat))
def TabRet (w : World) (e : Ending) (w' : World) : Prop := ∃ cs, e = .returned (.agg cs) ∧ IsTab cs ∧ Below w.heap.size w w'
theorem TabRet.mk {w w' : World} {cs : Array Value} (h : IsTab cs) (hb : Below w.heap.size w w') : TabRet w (.returned (.agg cs)) w' := ⟨cs, rfl, h, hb⟩
end Go.Proofs.YtmdkonfmbbbepaaDoor
