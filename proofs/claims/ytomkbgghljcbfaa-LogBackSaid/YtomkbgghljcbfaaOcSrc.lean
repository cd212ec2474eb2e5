/-
  Sources of appends: the head and the tail of changes of the call's own. And changes that are joined of them.
-/
import Derived.Test.YtomkbgghljcbfaaDiff
import Derived.Test.YtomkbgghljcbfaaParts
namespace Go.Proofs.Ytomkbgghljcbfaa
open Go.RowKit Go.Rst Go.Pg Go.Crc
theorem chCells_len : ∀ us : List (Chg × Value), (chCells us).length = us.length * 3
  | [] => rfl
  | x :: us => by
    have ih := chCells_len us
    have e : chCells (x :: us) = .string x.1.1 :: x.2 :: .bool x.1.2.2 :: chCells us := by simp [chCells]
    rw [e]
    simp only [List.length_cons]
    omega
section
variable {w : World} {base base' : Nat} {A : Option Addr} {n c : Nat} {us : List (Chg × Value)}
theorem chCells_one (hf : ∀ x ∈ us, FB 5 w base' x.2 x.1.2.1) : ∀ u ∈ chCells us, u.oneCell' = true := by
  intro u hu
  unfold chCells at hu
  obtain ⟨y, hy, hx⟩ := List.mem_flatMap.1 hu
  simp only [List.mem_cons, List.not_mem_nil, or_false] at hx
  rcases hx with rfl | rfl | rfl
  · rfl
  · exact fb_one (hf y hy)
  · rfl
theorem chCells_take : ∀ (us : List (Chg × Value)) (i : Nat), chCells (us.take i) = (chCells us).take (i * 3)
  | [], i => by simp [chCells]
  | x :: us, 0 => by simp [chCells]
  | x :: us, i + 1 => by
    have ih := chCells_take us i
    have e : ∀ l, chCells (x :: l) = .string x.1.1 :: x.2 :: .bool x.1.2.2 :: chCells l := fun l => by simp [chCells]
    rw [List.take_succ_cons, e, e, show (i + 1) * 3 = i * 3 + 1 + 1 + 1 by omega, List.take_succ_cons, List.take_succ_cons, List.take_succ_cons, ih]
theorem chCells_drop : ∀ (us : List (Chg × Value)) (i : Nat), chCells (us.drop i) = (chCells us).drop (i * 3)
  | [], i => by simp [chCells]
  | x :: us, 0 => by simp
  | x :: us, i + 1 => by
    have ih := chCells_drop us i
    have e : ∀ l, chCells (x :: l) = .string x.1.1 :: x.2 :: .bool x.1.2.2 :: chCells l := fun l => by simp [chCells]
    rw [List.drop_succ_cons, e, show (i + 1) * 3 = i * 3 + 1 + 1 + 1 by omega, List.drop_succ_cons, List.drop_succ_cons, List.drop_succ_cons, ih]
/-- The head of changes of the call's own, as a source. -/
theorem oc_take (ho : w.ownsRow base 51 3 (.slice A n c) us.length (chCells us)) (hf : ∀ x ∈ us, FB 5 w base' x.2 x.1.2.1) {i : Nat} (hi : i ≤ us.length) :
    Src Try.prog 3 22 (.slice A i c) i (chCells (us.take i)) w := by
  have hl : (chCells (us.take i)).length = i * 3 := by rw [chCells_len, List.length_take]; congr 1; omega
  have h1 : ∀ u ∈ chCells (us.take i), u.oneCell' = true := fun u hu => chCells_one hf u (by rw [chCells_take] at hu; exact List.mem_of_mem_take hu)
  rcases ho.2 with ⟨he, h0⟩ | ⟨g, cap, cur, he, hb, hg, hnc, hcm, hcs, ht⟩
  · injection he with e1 e2 e3
    subst e1
    have : i = 0 := by omega
    subst this
    rw [List.take_zero]
    exact Src.ofNil _ Try.underlying22 c
  · have hcell := ho.cells (g := g) (by rw [he]; rfl)
    injection he with e1 e2 e3
    subst e1
    refine Src.ofSlice _ Try.underlying22 ⟨g, 0, none⟩ _ _ _ hl (fun j x hj => hcell j x ?_) h1
    rw [chCells_take, List.getElem?_take] at hj
    split at hj
    · exact hj
    · cases hj
/-- The tail of changes of the call's own, as a source. -/
theorem oc_drop (ho : w.ownsRow base 51 3 (.slice A n c) us.length (chCells us)) (hf : ∀ x ∈ us, FB 5 w base' x.2 x.1.2.1) {K : Nat} (hK : K ≤ us.length) (hn : n = us.length) :
    Src Try.prog 3 22 (.slice (if c = K then A else Option.map (fun x => x.add (K * 3)) A) (n - K) (c - K)) (us.length - K) (chCells (us.drop K)) w := by
  subst hn
  have hl : (chCells (us.drop K)).length = (us.length - K) * 3 := by rw [chCells_len, List.length_drop]
  have h1 : ∀ u ∈ chCells (us.drop K), u.oneCell' = true := fun u hu => chCells_one hf u (by rw [chCells_drop] at hu; exact List.mem_of_mem_drop hu)
  rcases ho.2 with ⟨he, h0⟩ | ⟨g, cap, cur, he, hb, hg, hnc, hcm, hcs, ht⟩
  · injection he with e1 e2 e3
    subst e1
    have hK0 : K = 0 := by omega
    subst hK0
    have hu : us = [] := List.eq_nil_of_length_eq_zero h0
    subst hu
    have e0 : (if c = 0 then (none : Option Addr) else Option.map (fun x : Addr => x.add (0 * 3)) none) = none := by split <;> rfl
    rw [e0]
    exact Src.ofNil _ Try.underlying22 _
  · have hcell := ho.cells (g := g) (by rw [he]; rfl)
    injection he with e1 e2 e3
    subst e1
    subst e3
    by_cases hc : c = K
    · rw [if_pos hc]
      have hz : us.length - K = 0 := by omega
      have hd : us.drop K = [] := List.eq_nil_of_length_eq_zero (by rw [List.length_drop]; exact hz)
      rw [hz, hd]
      exact Src.ofSlice _ Try.underlying22 ⟨g, 0, none⟩ _ _ _ rfl (fun j x hj => by simp [chCells] at hj) (fun u hu => by cases hu)
    · rw [if_neg hc]
      refine Src.ofSlice _ Try.underlying22 ((⟨g, 0, none⟩ : Addr).add (K * 3)) _ _ _ hl (fun j x hj => ?_) h1
      rw [chCells_drop, List.getElem?_drop] at hj
      have h2 := hcell _ _ hj
      rw [Addr.add_lit] at h2 ⊢
      rw [Addr.add_lit, ← h2]
      congr 2
      omega
end
/-- Changes that are the head of some, and a tail of them. -/
theorem oc_joined {w w' : World} {base b0 i k : Nat} {v : Value} {us : List (Chg × Value)} (hf : ∀ x ∈ us, FB 5 w b0 x.2 x.1.2.1) (hb : Below w.heap.size w w') (hbase : b0 ≤ base)
    (ho : w'.ownsRow base 51 3 v (us.take i ++ us.drop k).length (chCells (us.take i) ++ chCells (us.drop k))) : RC w' v ((us.map (·.1)).take i ++ (us.map (·.1)).drop k) := by
  have h : OC 5 51 w' b0 v ((us.take i ++ us.drop k).map (·.1)) := ⟨us.take i ++ us.drop k, rfl, own_base (by rw [chCells_append]; exact ho) hbase, fun x hx => by
    rcases List.mem_append.1 hx with hx | hx
    · exact (hf x (List.mem_of_mem_take hx)).below hb
    · exact (hf x (List.mem_of_mem_drop hx)).below hb⟩
  have h2 := h.rc
  rw [List.map_append, List.map_take, List.map_drop] at h2
  exact h2
end Go.Proofs.Ytomkbgghljcbfaa
