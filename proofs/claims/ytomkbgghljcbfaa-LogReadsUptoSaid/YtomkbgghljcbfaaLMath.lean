/-
  Plain mathematics of the log: words, parts, pieces. No program.
-/
import Derived.Test.YtomkbgghljcbfaaGPure
import Derived.Test.YtomkbgghljcbfaaGBack
namespace Go.Proofs.Ytomkbgghljcbfaa
open Go.RowKit Go.Rst Go.Crc

/-- A word of 32 bits, the greatest byte first. -/
def wordL (n : Nat) : List UInt8 := [UInt8.ofNat (n / 16777216), UInt8.ofNat (n / 65536), UInt8.ofNat (n / 256), UInt8.ofNat n]
theorem wordL_length (n : Nat) : (wordL n).length = 4 := rfl
def pad60 (l : List UInt8) : List UInt8 := l ++ List.replicate (60 - l.length) 0
def headL (epoch n i of : Nat) (b : List UInt8) : List UInt8 := wordL epoch ++ wordL n ++ [UInt8.ofNat i, UInt8.ofNat of, UInt8.ofNat b.length] ++ b
/-- A piece's sector. -/
def partL (epoch n i of : Nat) (b : List UInt8) : List UInt8 := sealL (pad60 (headL epoch n i of b))
theorem headL_length (epoch n i of : Nat) (b : List UInt8) : (headL epoch n i of b).length = 11 + b.length := by simp [headL, wordL]; omega
theorem partL_length {epoch n i of : Nat} {b : List UInt8} (h : b.length ≤ 49) : (partL epoch n i of b).length = 64 := by
  unfold partL pad60
  rw [sealL_length, List.length_append, List.length_replicate, headL_length]
  omega
theorem pad_more {l : List UInt8} {j : Nat} : l ++ List.replicate (j + 1) 0 = (l ++ List.replicate j 0) ++ [(0 : UInt8)] := by rw [List.replicate_succ', List.append_assoc]
/-- How many pieces. -/
def ofL (b : List UInt8) : Nat := (b.length + 48) / 49
/-- Which one. -/
def pcL (b : List UInt8) (i : Nat) : List UInt8 := (b.drop (49 * i)).take 49
theorem pcL_length (b : List UInt8) (i : Nat) : (pcL b i).length = min 49 (b.length - 49 * i) := by unfold pcL; rw [List.length_take, List.length_drop]
def secL (epoch n : Nat) (b : List UInt8) (k : Nat) : List (List UInt8) := (List.range k).map fun i => partL epoch n i (ofL b) (pcL b i)
theorem secL_succ (epoch n : Nat) (b : List UInt8) (k : Nat) : secL epoch n b (k + 1) = secL epoch n b k ++ [partL epoch n k (ofL b) (pcL b k)] := by simp [secL, List.range_succ]
theorem secL_length (epoch n : Nat) (b : List UInt8) (k : Nat) : (secL epoch n b k).length = k := by simp [secL]
/-- A frame's sectors; false: none. -/
def partsL (epoch n : Int) (cs : List Chg) : List (List UInt8) × Bool :=
  if epoch < 0 ∨ 1073741824 < epoch ∨ n < 0 ∨ 1073741824 < n then ([], false)
  else if 200 < ofL (chgsL cs) then ([], false) else (secL epoch.toNat n.toNat (chgsL cs) (ofL (chgsL cs)), true)
end Go.Proofs.Ytomkbgghljcbfaa
