/-
  The contract of the reference's SameRows, at any rows: it tells whether they are the same.
-/
import Derived.Deep.QuietTactic
import Derived.BigQuiet
import Derived.Test.YtmdkonfmbbbepaaDoorKUB
set_option linter.unusedVariables false
namespace Go.Proofs.YtmdkonfmbbbepaaDoor
open Go.RowKit Go.Rst Go.Pg
theorem ba_neL {a b : ByteArray} (h : a ≠ b) : a.toList ≠ b.toList := fun e => h (ba_ext e)
end Go.Proofs.YtmdkonfmbbbepaaDoor
