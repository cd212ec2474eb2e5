/-
  Words on checks, over the seat's program, without any of its functions.
-/
import Derived.Test.YtbacdeogggcbfaaGWords
import Derived.Test.YtbacdeogggcbfaaGPure
namespace Go.Proofs.Ytbacdeogggcbfaa
open Go.RowKit Go.Rst Go.Crc
theorem xor32 {a b : Nat} (ha : a < B32) (hb : b < B32) : bits .xor .u32 (a : Int) (b : Int) = ((a ^^^ b : Nat) : Int) := u32_xor_nat a b ha hb
theorem xor32_poly {a : Nat} (ha : a < B32) : bits .xor .u32 (a : Int) 3988292384 = ((a ^^^ poly : Nat) : Int) := xor32 ha poly_lt
theorem xor8 {a b : Nat} (ha : a < 256) (hb : b < 256) : bits .xor .u8 (a : Int) (b : Int) = ((a ^^^ b : Nat) : Int) := u8_xor_nat a b ha hb
theorem xor32_ones {a : Nat} (ha : a < B32) : bits .xor .u32 (a : Int) 4294967295 = ((a ^^^ ones : Nat) : Int) := xor32 ha ones_lt
theorem take_snoc (l : List UInt8) (k : Nat) (h : k < l.length) : l.take (k + 1) = l.take k ++ [l[k]] := by
  rw [List.take_succ_eq_append_getElem h]
theorem craw_take (n : Nat) (l : List UInt8) (k : Nat) (h : k < l.length) : craw n (l.take (k + 1)) = cbyte (craw n (l.take k)) l[k] := by
  rw [take_snoc l k h, craw_snoc]
/-- A literal of bytes in a block of its own. -/
theorem own_lit {w : World} {e : TypeId} {l : List UInt8} {cs : Array Value} {n : Nat} (hcs : cs = (bvs l).toArray) (hn : n = l.length) (hm : n ≤ 1000000) :
    (w.alloc (.cells cs e)).ownsRow w.heap.size e 1 (.slice (some ⟨w.heap.size, 0, none⟩) n n) l.length (bvs l) := by
  subst hcs
  subst hn
  refine ⟨by simp [bvs_length], .inr ⟨w.heap.size, l.length, _, rfl, Nat.le_refl _, heap_alloc_new w _, Nat.le_refl _, by unfold maxLen; omega, by simp [bvs_length], ?_⟩⟩
  simp only [Nat.mul_one]
  rw [List.take_of_length_le (by simp [bvs_length])]
theorem tail_cells {n : Nat} (hn : n ≤ 4294967295) : #[Value.int .u8 ((n : Int) % 256), .int .u8 ((n : Int) / 256 % 256), .int .u8 ((n : Int) / 65536 % 256), .int .u8 ((n : Int) / 16777216)] = (bvs (tailL n)).toArray := by
  have e : (n : Int) / 16777216 = (n : Int) / 16777216 % 256 := by omega
  rw [e]
  unfold tailL bvs bv
  simp only [List.map_cons, List.map_nil, UInt8.toNat_ofNat']
  simp
theorem tail_own {n : Nat} {cs : Array Value} (h : cs = (bvs (tailL n)).toArray) (w : World) (e : TypeId) : (w.alloc (.cells cs e)).ownsRow w.heap.size e 1 (.slice (some ⟨w.heap.size, 0, none⟩) 4 4) (tailL n).length (bvs (tailL n)) :=
  own_lit h (tailL_length n).symm (by decide)
end Go.Proofs.Ytbacdeogggcbfaa
