/-
  The contract of slices.Sort of numbers of the call's own (layer model).
-/
import Derived.Sort.OwnSortedInts
import Derived.Test.YtodckdkbheapfaaGreatKOCE
import Derived.Test.YtodckdkbheapfaaGreatKODE
set_option linter.unusedVariables false
set_option linter.unusedVariables false
namespace Go.Md
open Go Go.Tp Go.Ts
theorem insI_perm (n : Int) : ∀ l : List Int, (insI n l).Perm (l ++ [n])
  | [] => List.Perm.refl _
  | a :: l => by
    unfold insI
    split
    · exact (List.perm_append_comm (l₁ := [n]) (l₂ := a :: l))
    · exact (insI_perm n l).cons a
theorem sort_ins_eq {l : List Int} {n : Int} (h : l.Pairwise (· < ·)) (hn : n ∉ l) : (l ++ [n]).mergeSort (fun x y => decide (x ≤ y)) = insI n l := by
  have h1 : ((l ++ [n]).mergeSort (fun x y => decide (x ≤ y))).Pairwise (fun a b => decide (a ≤ b) = true) := List.pairwise_mergeSort (fun a b c => by simp; omega) (fun a b => by simp; omega) _
  have h2 : (insI n l).Pairwise (fun a b => decide (a ≤ b) = true) := (sort_insI h hn).imp (fun hab => by simp; omega)
  have hp : ((l ++ [n]).mergeSort (fun x y => decide (x ≤ y))).Perm (insI n l) := (List.mergeSort_perm _ _).trans (insI_perm n l).symm
  exact hp.eq_of_pairwise (fun a b _ _ h3 h4 => by simp at h3 h4; omega) h1 h2
end Go.Md
namespace Go.Proofs.YtodckdkbheapfaaGreat
open Go.RowKit Go.Rst Go.Tp Go.Ts Go.Md
theorem flat_i (xs : List Int) : (xs.map fun n => [Value.int .i64 n]).flatten = xs.map (Value.int .i64) := by
  induction xs with
  | nil => rfl
  | cons a l ih => simp [ih]
theorem sort_own (B : Nat) (v : Value) (zs : List Int) (w : World) (h : OwnA w B v zs) (hn : 0 < zs.length) (hl : zs.length ≤ 1000000) :
    Calls Tryz.prog 76 #[v] w fun e w' => e = .returned (.tuple #[]) ∧ OwnA w' B v (zs.mergeSort fun x y => decide (x ≤ y)) ∧ w.grownBy w' v.ownBlock := by
  have h2 := h
  unfold OwnA at h2
  rw [flat_i] at h2
  rcases h2.2 with ⟨_, h0⟩ | ⟨g, cap, cur, rfl, hb, hg, hle, hm, hs, ht⟩
  · omega
  · rw [Nat.mul_one] at ht
    refine (Tryz.slices_Sort_int g 0 cap zs w (holds_of_blockI hg ht) (Array.getElem?_eq_some_iff.1 hg).1 (by omega)).mono ?_
    rintro e w' ⟨rfl, n, os, rfl⟩
    refine ⟨rfl, ?_, grownBy_sortedI _⟩
    have hl2 : (zs.mergeSort fun x y => decide (x ≤ y)).length = zs.length := List.length_mergeSort _
    show World.ownsRow _ _ _ _ _ (zs.mergeSort fun x y => decide (x ≤ y)).length _
    rw [flat_i, hl2]
    exact ownsRow_sortedI hl2 hb hg hle hm hs
end Go.Proofs.YtodckdkbheapfaaGreat
