/-
  The contract of code.takeRow: at any place of any bytes it tells what the plain function getRow tells.
-/
import Derived.Test.YtomkbgghljcbfaaGet
import Derived.Test.YtomkbgghljcbfaaRows1
import Derived.Test.YtomkbgghljcbfaaGWords
set_option linter.unusedVariables false

namespace Go.Proofs.Ytomkbgghljcbfaa
open Go.RowKit Go.Rst

def getRow (l : List UInt8) (p : Int) : List UInt8 × List UInt8 × Int × Int :=
  if (getText l p 30).2.2 ≠ 0 then ([], [], 0, (getText l p 30).2.2)
  else if (getText l (getText l p 30).2.1 150).2.2 ≠ 0 then ([], [], 0, (getText l (getText l p 30).2.1 150).2.2)
  else ((getText l p 30).1, (getText l (getText l p 30).2.1 150).1, (getText l (getText l p 30).2.1 150).2.1, 0)

/-- What takeRow hands back. -/
def GivesRow (w : World) (r : List UInt8 × List UInt8 × Int × Int) (x : Ending) (w' : World) : Prop :=
  ∃ u, x = .returned (.tuple #[.agg #[.string ⟨r.1.toArray⟩, u], .int .i64 r.2.2.1, .int .u16 r.2.2.2]) ∧ FB 5 w' w.heap.size u r.2.1 ∧ Below w.heap.size w w'

end Go.Proofs.Ytomkbgghljcbfaa

/-
  The contract of the generic take at rows: of any bytes it tells what the plain function readRows tells.
-/
namespace Go.Proofs.Ytomkbgghljcbfaa
open Go.RowKit Go.Rst

def rowsF (l : List UInt8) : Nat → Int → List (ByteArray × List UInt8) → List (ByteArray × List UInt8) × Int
  | 0, q, acc => if q < l.length then ([], 11) else (acc, 0)
  | f + 1, q, acc => if (getRow l q).2.2.2 ≠ 0 then ([], (getRow l q).2.2.2) else rowsF l f (getRow l q).2.2.1 (acc ++ [(⟨(getRow l q).1.toArray⟩, (getRow l q).2.1)])
def readRows (l : List UInt8) : List (ByteArray × List UInt8) × Int :=
  if (getNum l 0).2.2 ≠ 0 then ([], (getNum l 0).2.2) else if 5000 < (getNum l 0).1 then ([], 3) else rowsF l (getNum l 0).1.toNat (getNum l 0).2.1 []

def GivesRows (w : World) (r : List (ByteArray × List UInt8) × Int) (x : Ending) (w' : World) : Prop :=
  ∃ v, x = .returned (.tuple #[v, .int .u16 r.2]) ∧ OR 5 53 w' w.heap.size v r.1 ∧ Below w.heap.size w w'

theorem getRow_err (l : List UInt8) (p : Int) : (getRow l p).2.2.2 = 0 ∨ (getRow l p).2.2.2 = 3 ∨ (getRow l p).2.2.2 = 10 ∨ (getRow l p).2.2.2 = 11 := by
  have h1 := getText_spec l p 30
  have h2 := getText_spec l (getText l p 30).2.1 150
  unfold getRow
  split
  · rcases h1 with h1 | h1
    · exact .inl h1.1
    · exact .inr h1.1
  · split
    · rcases h2 with h2 | h2
      · exact .inl h2.1
      · exact .inr h2.1
    · exact .inl rfl

end Go.Proofs.Ytomkbgghljcbfaa
