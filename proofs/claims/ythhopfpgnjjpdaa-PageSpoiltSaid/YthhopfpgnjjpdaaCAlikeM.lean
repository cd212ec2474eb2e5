/-
  Plain mathematics: the check is linear; a row that is filled place by place with differences. No program.
-/
import Derived.Test.YthhopfpgnjjpdaaCMath
import Derived.Test.YthhopfpgnjjpdaaBase
namespace Go.Crc
open Go.Rst
def xorL (a b : List UInt8) : List UInt8 := List.zipWith (fun x y => x ^^^ y) a b
theorem xor4 (a b c d : Nat) : (a ^^^ b) ^^^ (c ^^^ d) = (a ^^^ c) ^^^ (b ^^^ d) := by
  rw [Nat.xor_assoc, Nat.xor_assoc, ← Nat.xor_assoc b c d, Nat.xor_comm b c, Nat.xor_assoc c b d]
theorem cbyte_xor (s t : Nat) (c d : UInt8) : cbyte (s ^^^ t) (c ^^^ d) = cbyte s c ^^^ cbyte t d := by
  unfold cbyte
  rw [UInt8.toNat_xor, xor4, ceight_xor]
theorem craw_xor : ∀ (a b : List UInt8) (s t : Nat), a.length = b.length → craw (s ^^^ t) (xorL a b) = craw s a ^^^ craw t b
  | [], [], _, _, _ => rfl
  | c :: a, d :: b, s, t, h => by
    show craw (cbyte (s ^^^ t) (c ^^^ d)) (xorL a b) = craw (cbyte s c) a ^^^ craw (cbyte t d) b
    rw [cbyte_xor]
    exact craw_xor a b _ _ (by simpa using h)
theorem xorL_zero : ∀ (a : List UInt8), xorL a (List.replicate a.length 0) = a
  | [] => rfl
  | c :: a => by
    show (c ^^^ 0) :: xorL a (List.replicate a.length 0) = c :: a
    rw [xorL_zero a]
    simp
theorem xorL_length {a b : List UInt8} (h : a.length = b.length) : (xorL a b).length = a.length := by unfold xorL; simp; omega
/-- The difference of two checks. -/
theorem csum_xor (a b : List UInt8) (h : a.length = b.length) : csum a ^^^ csum b = craw 0 (xorL a b) := by
  unfold csum cmore
  rw [xor4, Nat.xor_self, Nat.xor_zero, ← craw_xor a b _ _ h, Nat.xor_self]
theorem alike (a b : List UInt8) (h : a.length = b.length) : csum a ^^^ csum b = csum (xorL a b) ^^^ csum (List.replicate a.length 0) := by
  rw [csum_xor a b h, csum_xor _ _ (by rw [xorL_length h]; simp)]
  have := xorL_zero (xorL a b)
  rw [xorL_length h] at this
  rw [this]

/-- A row of n, of which the first k are differences, the others nought. -/
def xk (a b : List UInt8) (n k : Nat) : List UInt8 := (List.range n).map fun j => if j < k then a.getD j 0 ^^^ b.getD j 0 else 0
theorem xk_length (a b : List UInt8) (n k : Nat) : (xk a b n k).length = n := by simp [xk]
theorem xk_zero (a b : List UInt8) (n : Nat) : xk a b n 0 = List.replicate n 0 := by
  apply List.ext_getElem
  · simp [xk]
  · intro i h1 h2; simp [xk]
theorem xk_set (a b : List UInt8) (n k : Nat) (_h : k < n) : (xk a b n k).set k (a.getD k 0 ^^^ b.getD k 0) = xk a b n (k + 1) := by
  apply List.ext_getElem
  · simp [xk]
  · intro i h1 h2
    rw [List.getElem_set]
    by_cases e : k = i
    · subst e; simp [xk]
    · rw [if_neg e]
      simp only [xk, List.getElem_map, List.getElem_range]
      by_cases hik : i < k
      · rw [if_pos hik, if_pos (by omega)]
      · rw [if_neg hik, if_neg (by omega)]
theorem xk_full (a b : List UInt8) (n : Nat) (ha : n ≤ a.length) (hb : n ≤ b.length) : xk a b n n = xorL (a.take n) (b.take n) := by
  apply List.ext_getElem
  · simp [xk, xorL]; omega
  · intro i h1 h2
    have hi : i < n := by simpa [xk] using h1
    simp [xk, xorL, hi, List.getElem?_eq_getElem (show i < a.length by omega), List.getElem?_eq_getElem (show i < b.length by omega)]
theorem bvs_set (l : List UInt8) (k : Nat) (c : UInt8) : (bvs l).toArray.setIfInBounds k (bv c) = (bvs (l.set k c)).toArray := by
  simp [bvs, List.map_set]
end Go.Crc
