/-
  The contracts of the generic list at rows, and of code.Rows: they make the bytes of rows that take at most a billion bytes in all.
-/
import Derived.Test.YtomkbgghljcbfaaRow
namespace Go.Proofs.Ytomkbgghljcbfaa
open Go.RowKit Go.Rst

def rowsB (rs : List (ByteArray × List UInt8)) : List UInt8 := rs.flatMap fun r => rowL r.1.data.toList r.2
def rowsL (rs : List (ByteArray × List UInt8)) : List UInt8 := numL rs.length ++ rowsB rs
theorem rowsB_take {rs : List (ByteArray × List UInt8)} {k : Nat} (h : k < rs.length) : rowsB (rs.take (k + 1)) = rowsB (rs.take k) ++ rowL rs[k].1.data.toList rs[k].2 := by
  unfold rowsB
  rw [List.take_succ_eq_append_getElem h, List.flatMap_append]
  simp
theorem rowsB_le (rs : List (ByteArray × List UInt8)) (k : Nat) : (rowsB (rs.take k)).length ≤ (rowsB rs).length := by
  conv => rhs; rw [← List.take_append_drop k rs]
  unfold rowsB
  rw [List.flatMap_append, List.length_append]
  omega
theorem rowL_len (k l : List UInt8) : k.length + l.length ≤ (rowL k l).length := by
  unfold rowL textL
  simp only [List.length_append]
  omega

end Go.Proofs.Ytomkbgghljcbfaa
