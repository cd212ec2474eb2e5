/-
  Plain mathematics: changes that choices say: how many, how long.
-/
import Derived.Test.YtomkbgghljcbfaaGCl
namespace Go.Proofs.Ytomkbgghljcbfaa
open Go.RowKit Go.Rst

theorem size_list (s : ByteArray) : s.data.toList.length = s.size := by rw [Array.length_toList]; rfl
def sizesC (rs : List Chg) : Nat := (rs.map fun r => r.1.size + r.2.1.length).sum
def totC (rs : List Chg) : Nat := rs.length + sizesC rs
theorem sizesC_take {rs : List Chg} {k : Nat} (h : k < rs.length) : sizesC (rs.take (k + 1)) = sizesC (rs.take k) + (rs[k].1.size + rs[k].2.1.length) := by
  unfold sizesC
  rw [List.take_succ_eq_append_getElem h]
  simp only [List.map_append, List.sum_append, List.map_cons, List.map_nil, List.sum_cons, List.sum_nil, Nat.add_zero]
theorem sizesC_le (rs : List Chg) (k : Nat) : sizesC (rs.take k) ≤ sizesC rs := by
  conv => rhs; rw [← List.take_append_drop k rs]
  unfold sizesC
  rw [List.map_append, List.sum_append]
  omega
theorem chgL_few (c : Chg) (h1 : c.1.size ≤ 1000000000) (h2 : c.2.1.length ≤ 1000000000) : (chgL c).length ≤ 18 + (c.1.size + c.2.1.length) := by
  have h3 := size_list c.1
  have h4 := numL_len8 (n := c.1.data.toList.length) (by omega)
  have h5 := numL_len8 (n := c.2.1.length) (by omega)
  unfold chgL textL
  split <;> simp only [List.length_append, List.length_cons, List.length_nil] <;> omega
theorem chgsB_few : ∀ (rs : List Chg), sizesC rs ≤ 90000 → (chgsB rs).length ≤ 18 * rs.length + sizesC rs ∧ ∀ r ∈ rs, r.2.1.length ≤ 1000000000
  | [], _ => by simp [chgsB, sizesC]
  | r :: rs, h => by
    have e : sizesC (r :: rs) = r.1.size + r.2.1.length + sizesC rs := by simp [sizesC]
    obtain ⟨ih, ih2⟩ := chgsB_few rs (by omega)
    have h2 := chgL_few r (by omega) (by omega)
    have e2 : chgsB (r :: rs) = chgL r ++ chgsB rs := by unfold chgsB; rw [List.flatMap_cons]
    refine ⟨?_, fun x hx => ?_⟩
    · rw [e2, e, List.length_append, List.length_cons]
      omega
    · rcases List.mem_cons.1 hx with rfl | hx
      · omega
      · exact ih2 x hx
theorem madeC_sizes (c : List UInt8) : ∀ k, sizesC ((rowsAt c k).map chgOf) ≤ 200 * k
  | 0 => by simp [rowsAt, sizesC]
  | k + 1 => by
    have ih := madeC_sizes c k
    rw [rowsAt_succ, List.map_append]
    unfold sizesC at ih ⊢
    rw [List.map_append, List.sum_append]
    have h1 : rlen (c.getD (2 * k) 0) (c.getD (2 * k + 1) 0) ≤ 150 := by unfold rlen; split <;> omega
    have h2 : ((chgOf (rowOf (c.getD (2 * k) 0) (c.getD (2 * k + 1) 0))).1.size + (chgOf (rowOf (c.getD (2 * k) 0) (c.getD (2 * k + 1) 0))).2.1.length) ≤ 152 := by
      unfold chgOf
      have h3 : (rowOf (c.getD (2 * k) 0) (c.getD (2 * k + 1) 0)).1.size = 2 := rfl
      have h4 : (rowOf (c.getD (2 * k) 0) (c.getD (2 * k + 1) 0)).2.length ≤ 150 := by unfold rowOf; simp only [fill_length]; exact h1
      split
      · simp only [List.length_nil]; omega
      · simp only; omega
    simp only [List.map_cons, List.map_nil, List.sum_cons, List.sum_nil]
    omega
end Go.Proofs.Ytomkbgghljcbfaa
