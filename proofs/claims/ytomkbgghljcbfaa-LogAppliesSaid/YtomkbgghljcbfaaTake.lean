/-
  The contract of code.takeRow: at any place of any bytes it tells what the plain function getRow tells.
-/
import Derived.Test.YtomkbgghljcbfaaGet
import Derived.Test.YtomkbgghljcbfaaRows1
namespace Go.Proofs.Ytomkbgghljcbfaa
open Go.RowKit Go.Rst

def getRow (l : List UInt8) (p : Int) : List UInt8 × List UInt8 × Int × Int :=
  if (getText l p 30).2.2 ≠ 0 then ([], [], 0, (getText l p 30).2.2)
  else if (getText l (getText l p 30).2.1 150).2.2 ≠ 0 then ([], [], 0, (getText l (getText l p 30).2.1 150).2.2)
  else ((getText l p 30).1, (getText l (getText l p 30).2.1 150).1, (getText l (getText l p 30).2.1 150).2.1, 0)

/-- What takeRow hands back. -/
def GivesRow (w : World) (r : List UInt8 × List UInt8 × Int × Int) (x : Ending) (w' : World) : Prop :=
  ∃ u, x = .returned (.tuple #[.agg #[.string ⟨r.1.toArray⟩, u], .int .i64 r.2.2.1, .int .u16 r.2.2.2]) ∧ FB 5 w' w.heap.size u r.2.1 ∧ Below w.heap.size w w'

end Go.Proofs.Ytomkbgghljcbfaa
