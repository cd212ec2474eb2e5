/-
  Plain mathematics of the statements on pairs: they are wanted of themselves, and so are fewer. No program.
-/
import Derived.Test.YthifpfdfepepoaaTpPairs
import Derived.Test.YthifpfdfepepoaaTpOwnM
set_option linter.unusedVariables false
namespace Go.Tp
theorem want_self (a : List UInt8) : wantB a a = attrsB a := by
  unfold wantB attrsB
  rw [List.all_eq_true.2 (fun x hx => by rw [List.contains_iff_mem]; exact hx), Bool.true_and, Bool.and_self]
theorem want_none (a : List UInt8) : wantB [] a = attrsB a := by
  unfold wantB attrsB
  rw [show pairsR [] = ([], true) from rfl]
  rfl
theorem pairsP_front : ∀ (xs ys : List (List UInt8)) (last : List UInt8), pairsP last (xs ++ ys) = true → pairsP last xs = true
  | [], _, _, _ => rfl
  | x :: xs, ys, last, h => by
    rw [List.cons_append, pairsP, Bool.and_eq_true] at h
    rw [pairsP, h.1, pairsP_front xs ys _ h.2]; rfl
theorem attrs_yes {l : List UInt8} (h0 : l ≠ []) (h : attrsB l = true) : pairsP [] (splitL 44 l) = true ∧ l.length ≤ 30 ∧ (pairsR l).1 = splitL 44 l := by
  unfold attrsB pairsR at h
  unfold pairsR
  rw [if_neg h0] at h ⊢
  by_cases hp : pairsP [] (splitL 44 l) = true
  · rw [if_pos hp] at h ⊢
    exact ⟨hp, of_decide_eq_true h, rfl⟩
  · rw [if_neg hp] at h
    cases h
/-- A pair less. -/
theorem want_less {q r : List UInt8} (hq : q ≠ []) (h : attrsB (q ++ 44 :: r) = true) : wantB q (q ++ 44 :: r) = true := by
  obtain ⟨h1, h2, h3⟩ := attrs_yes (by simp) h
  rw [splitL_append] at h1 h3
  have hp := pairsP_front _ _ _ h1
  have hr : pairsR q = (splitL 44 q, true) := by
    unfold pairsR
    rw [if_neg hq, if_pos hp, decide_eq_true (by simp at h2; omega)]
  have h4 : (pairsR (q ++ 44 :: r)).2 = true := h
  unfold wantB
  rw [hr, h3, h4, List.all_eq_true.2 (fun x hx => by rw [List.contains_iff_mem]; exact List.mem_append_left _ hx)]
  rfl
theorem pairOk_mk {k v : List UInt8} (hk : ∀ x ∈ k, x ≠ 61) (hv : ∀ x ∈ v, x ≠ 61) (last : List UInt8) : pairOk last (k ++ 61 :: v) = (wordB k && wordB v && !leS k last) := by
  unfold pairOk
  rw [splitL_append, splitL_last 61 k hk, splitL_last 61 v hv]
  rfl
theorem one_attrs (c : UInt8) : attrsB [c, 61, 97] = isW c := by
  by_cases h4 : c = 44
  · subst h4; decide
  by_cases h6 : c = 61
  · subst h6; decide
  have e : splitL 44 [c, 61, 97] = [[c, 61, 97]] := splitL_last 44 _ (by simpa using h4)
  have ep : pairsP [] (splitL 44 [c, 61, 97]) = isW c := by
    rw [e, pairsP, pairsP, Bool.and_true, show [c, 61, 97] = [c] ++ 61 :: [97] from rfl, pairOk_mk (by simpa using h6) (by decide)]
    simp [wordB, leS, Op.bytesLess, show isW 97 = true by decide]
  unfold attrsB pairsR
  rw [if_neg (by simp), ep]
  cases isW c <;> rfl
theorem long_attrs (n : Nat) : attrsB (107 :: 61 :: List.replicate n 97) = (decide (1 ≤ n) && decide (n ≤ 28)) := by
  have hn : ∀ x ∈ List.replicate n (97 : UInt8), x = 97 := fun x hx => List.eq_of_mem_replicate hx
  have e : splitL 44 (107 :: 61 :: List.replicate n 97) = [107 :: 61 :: List.replicate n 97] := splitL_last 44 _ (fun x hx => by
    rcases List.mem_cons.1 hx with h | h
    · rw [h]; decide
    · rcases List.mem_cons.1 h with h | h
      · rw [h]; decide
      · rw [hn x h]; decide)
  have hw : wordB (List.replicate n 97) = decide (1 ≤ n) := by
    unfold wordB
    rw [List.all_replicate, List.length_replicate]
    by_cases h : n = 0
    · subst h; decide
    · rw [if_neg h, show isW 97 = true by decide, Bool.true_and]
      rfl
  have ep : pairsP [] (splitL 44 (107 :: 61 :: List.replicate n 97)) = decide (1 ≤ n) := by
    rw [e, pairsP, pairsP, Bool.and_true, show 107 :: 61 :: List.replicate n 97 = [107] ++ 61 :: List.replicate n (97 : UInt8) from rfl, pairOk_mk (by decide) (fun x hx => by rw [hn x hx]; decide), hw]
    rw [show wordB [107] = true by decide, show leS [107] [] = false by decide]
    simp
  unfold attrsB pairsR
  rw [if_neg (by simp), ep]
  by_cases h : 1 ≤ n
  · rw [decide_eq_true h]
    simp only [if_true, Bool.true_and, List.length_cons, List.length_replicate]
    rw [decide_eq_decide]
    omega
  · rw [decide_eq_false h]
    rfl
end Go.Tp
