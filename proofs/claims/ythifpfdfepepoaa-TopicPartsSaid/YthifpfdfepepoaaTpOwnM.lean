/-
  Plain mathematics of the statements on topics: what a topic's own parts match, pairs that are wanted of themselves. No program.
-/
import Derived.Test.YthifpfdfepepoaaTpM
set_option linter.unusedVariables false
namespace Go.Tp
theorem isW_ne {x c : UInt8} (h : isW x = true) (hc : isW c = false) : x ≠ c := fun e => by rw [e, hc] at h; cases h
theorem word_ne {p : List UInt8} (h : wordB p = true) : p ≠ [35] ∧ p ≠ [43] := by
  refine ⟨fun e => ?_, fun e => ?_⟩ <;> (rw [e] at h; revert h; decide)
/-- Parts behind a sign. -/
theorem splitL_append (c : UInt8) : ∀ (a b : List UInt8), splitL c (a ++ c :: b) = splitL c a ++ splitL c b
  | [], b => by simp [splitL]
  | x :: a, b => by
    rw [List.cons_append, splitL, splitL, splitL_append c a b]
    by_cases h : x = c
    · rw [if_pos h, if_pos h]; rfl
    · rw [if_neg h, if_neg h]
      cases hs : splitL c a with
      | nil => exact absurd hs (splitL_ne c a)
      | cons p ps => rfl
theorem splitL_more (c : UInt8) (a p : List UInt8) (hp : ∀ x ∈ p, x ≠ c) : splitL c (a ++ c :: p) = splitL c a ++ [p] := by
  rw [splitL_append, splitL_last c p hp]
theorem patP_words : ∀ (ps : List (List UInt8)), ps.all wordB = true → patP ps = true
  | [], _ => rfl
  | [p], h => by simp at h; simp [patP, h]
  | p :: q :: r, h => by
    rw [List.all_cons, Bool.and_eq_true] at h
    rw [patP, patP_words (q :: r) h.2, h.1]
    · rfl
    · intro e; cases e
/-- A last part behind words. -/
theorem patP_last : ∀ (ps : List (List UInt8)) (q : List UInt8), ps.all wordB = true → (wordB q = true ∨ q = [43] ∨ q = [35]) → patP (ps ++ [q]) = true
  | [], q, _, hq => by rcases hq with h | h | h <;> simp [patP, h]
  | p :: ps, q, h, hq => by
    rw [List.all_cons, Bool.and_eq_true] at h
    have e : p :: ps ++ [q] = p :: (ps ++ [q]) := rfl
    rw [e]
    have hr := patP_last ps q h.2 hq
    cases hs : ps ++ [q] with
    | nil => simp at hs
    | cons x xs =>
      rw [hs] at hr
      rw [patP, hr, h.1]
      · rfl
      · intro e; cases e
theorem matP_cons {x y : List UInt8} {xs ys : List (List UInt8)} (h : x ≠ [35]) (h2 : x = [43] ∨ x = y) : matP (x :: xs) (y :: ys) = matP xs ys := by
  rw [matP, if_neg h, if_neg (fun h3 => by rcases h2 with h4 | h4; exact h3.1 h4; exact h3.2 h4)]
/-- Words at the front of both. -/
theorem matP_front : ∀ (ps a b : List (List UInt8)), ps.all wordB = true → matP (ps ++ a) (ps ++ b) = matP a b
  | [], _, _, _ => rfl
  | p :: ps, a, b, h => by
    rw [List.all_cons, Bool.and_eq_true] at h
    rw [List.cons_append, List.cons_append, matP_cons (word_ne h.1).1 (.inr rfl), matP_front ps a b h.2]
theorem matP_self (ps : List (List UInt8)) (h : ps.all wordB = true) : matP ps ps = true := by
  have e := matP_front ps [] [] h
  rw [List.append_nil] at e
  rw [e]; rfl
theorem matP_less (ps : List (List UInt8)) (q : List UInt8) (h : ps.all wordB = true) : matP ps (ps ++ [q]) = false := by
  have e := matP_front ps [] [q] h
  rw [List.append_nil] at e
  rw [e]; rfl
theorem matP_more (ps : List (List UInt8)) (q : List UInt8) (h : ps.all wordB = true) : matP (ps ++ [q]) ps = false := by
  have e := matP_front ps [q] [] h
  rw [List.append_nil] at e
  rw [e]; rfl
theorem matP_plus (ps : List (List UInt8)) (q : List UInt8) (h : ps.all wordB = true) : matP (ps ++ [[43]]) (ps ++ [q]) = true := by
  rw [matP_front ps _ _ h, matP_cons (by decide) (.inl rfl)]; rfl
theorem matP_hash (ps : List (List UInt8)) (q : List UInt8) (h : ps.all wordB = true) : matP (ps ++ [[35]]) (ps ++ [q]) = true := by
  rw [matP_front ps _ _ h, matP, if_pos rfl]
theorem matP_all (ps : List (List UInt8)) (h : ps ≠ []) : matP [[35]] ps = true := by
  cases ps with
  | nil => exact absurd rfl h
  | cons p ps => rw [matP, if_pos rfl]
theorem right_parts {t : List UInt8} (h : rightB t = true) : (splitL 47 t).all wordB = true ∧ t.length ≤ 30 := by
  unfold rightB at h
  rw [Bool.and_eq_true, decide_eq_true_eq] at h
  exact h
theorem right_pat {t : List UInt8} (h : rightB t = true) : patB t = true := by
  obtain ⟨h1, h2⟩ := right_parts h
  unfold patB
  rw [patP_words _ h1, Bool.true_and]
  exact decide_eq_true h2
theorem right_self {t : List UInt8} (h : rightB t = true) : matB t t = true := by
  unfold matB
  rw [right_pat h, h, matP_self _ (right_parts h).1]; rfl
theorem right_hash {t : List UInt8} (h : rightB t = true) : matB [35] t = true := by
  unfold matB
  rw [h, show patB [35] = true by decide, show splitL 47 [35] = [[35]] by decide, matP_all _ (splitL_ne _ _)]; rfl
theorem not_right {t : List UInt8} (h : rightB t = false) (p : List UInt8) : matB p t = false := by
  unfold matB
  rw [h, Bool.and_false, Bool.false_and]
/-- What TopicOwn asks of a topic and of one with a part more. -/
theorem own_more {t : List UInt8} (h : rightB t = true) (hm : rightB (t ++ [47, 97]) = true) :
    matB t (t ++ [47, 97]) = false ∧ matB (t ++ [47, 97]) t = false ∧ matB (t ++ [47, 43]) (t ++ [47, 97]) = true ∧ matB (t ++ [47, 35]) (t ++ [47, 97]) = true ∧ matB (t ++ [47, 35]) t = false := by
  obtain ⟨h1, h2⟩ := right_parts h
  obtain ⟨_, h3⟩ := right_parts hm
  have hl : t.length + 2 ≤ 30 := by simpa using h3
  have ea : splitL 47 (t ++ [47, 97]) = splitL 47 t ++ [[97]] := splitL_more 47 t [97] (by decide)
  have ep : splitL 47 (t ++ [47, 43]) = splitL 47 t ++ [[43]] := splitL_more 47 t [43] (by decide)
  have eh : splitL 47 (t ++ [47, 35]) = splitL 47 t ++ [[35]] := splitL_more 47 t [35] (by decide)
  have pp : patB (t ++ [47, 43]) = true := by
    unfold patB
    rw [ep, patP_last _ _ h1 (.inr (.inl rfl)), Bool.true_and]
    exact decide_eq_true (by simpa using hl)
  have ph : patB (t ++ [47, 35]) = true := by
    unfold patB
    rw [eh, patP_last _ _ h1 (.inr (.inr rfl)), Bool.true_and]
    exact decide_eq_true (by simpa using hl)
  refine ⟨?_, ?_, ?_, ?_, ?_⟩ <;> unfold matB
  · rw [ea, matP_less _ _ h1, Bool.and_false]
  · rw [ea, matP_more _ _ h1, Bool.and_false]
  · rw [pp, hm, ea, ep, matP_plus _ _ h1]; rfl
  · rw [ph, hm, ea, eh, matP_hash _ _ h1]; rfl
  · rw [eh, matP_more _ _ h1, Bool.and_false]
/-- TopicParts. -/
def plusT : Nat → List UInt8
  | 0 => [43]
  | n + 1 => plusT n ++ [47, 43]
def abT : Nat → List UInt8
  | 0 => [97]
  | n + 1 => abT n ++ [47, 98]
theorem plusT_split : ∀ n, splitL 47 (plusT n) = List.replicate (n + 1) [43]
  | 0 => by decide
  | n + 1 => by
    rw [plusT, show [47, 43] = (47 : UInt8) :: [43] from rfl, splitL_more 47 _ [43] (by decide), plusT_split n, List.replicate_succ' (n := n + 1)]
theorem abT_split : ∀ n, splitL 47 (abT n) = [97] :: List.replicate n [98]
  | 0 => by decide
  | n + 1 => by
    rw [abT, show [47, 98] = (47 : UInt8) :: [98] from rfl, splitL_more 47 _ [98] (by decide), abT_split n, List.replicate_succ' (n := n), List.cons_append]
theorem plusT_len : ∀ n, (plusT n).length = 2 * n + 1
  | 0 => rfl
  | n + 1 => by rw [plusT, List.length_append, plusT_len n]; simp; omega
theorem abT_len : ∀ n, (abT n).length = 2 * n + 1
  | 0 => rfl
  | n + 1 => by rw [abT, List.length_append, abT_len n]; simp; omega
theorem matP_rep : ∀ (n : Nat) (ys : List (List UInt8)), matP (List.replicate n [43]) ys = decide (n = ys.length)
  | 0, [] => rfl
  | 0, y :: ys => by simp [matP]
  | n + 1, [] => by simp [List.replicate_succ, matP]
  | n + 1, y :: ys => by
    rw [List.replicate_succ, matP_cons (by decide) (.inl rfl), matP_rep n ys]
    simp
theorem parts_match (n m : Nat) (hn : n < 8) (hm : m < 8) : matB (plusT n) (abT m) = decide (n = m) := by
  have hp : patB (plusT n) = true := by
    unfold patB
    rw [plusT_split, plusT_len, decide_eq_true (show 2 * n + 1 ≤ 30 by omega), Bool.and_true]
    have : ∀ k, patP (List.replicate (k + 1) [43]) = true := by
      intro k
      induction k with
      | zero => decide
      | succ k ih =>
        rw [List.replicate_succ, List.replicate_succ, patP, ← List.replicate_succ, ih]
        · decide
        · intro e; cases e
    exact this n
  have hr : rightB (abT m) = true := by
    unfold rightB
    rw [abT_split, abT_len, decide_eq_true (show 2 * m + 1 ≤ 30 by omega), Bool.and_true, List.all_cons, show wordB [97] = true by decide, Bool.true_and, List.all_eq_true]
    intro x hx
    rw [List.eq_of_mem_replicate hx]; decide
  unfold matB
  rw [hp, hr, plusT_split, abT_split, matP_rep]
  simp
theorem one_right (c : UInt8) : rightB [c] = isW c ∧ patB [c] = (isW c || decide (c = 43) || decide (c = 35)) := by
  by_cases h : c = 47
  · subst h; decide
  · have e : splitL 47 [c] = [[c]] := splitL_last 47 [c] (by simpa using h)
    unfold rightB patB
    rw [e]
    simp [patP, wordB]
theorem long_right (n : Nat) : rightB (List.replicate n 97) = (decide (1 ≤ n) && decide (n ≤ 30)) ∧ patB (List.replicate n 97) = (decide (1 ≤ n) && decide (n ≤ 30)) := by
  have e : splitL 47 (List.replicate n 97) = [List.replicate n 97] := splitL_last 47 _ (fun x hx => by rw [List.eq_of_mem_replicate hx]; decide)
  have hw : wordB (List.replicate n 97) = decide (1 ≤ n) := by
    unfold wordB
    rw [List.all_replicate, List.length_replicate]
    by_cases h : n = 0
    · subst h; decide
    · rw [if_neg h, show isW 97 = true by decide, Bool.true_and]
      rfl
  have h43 : List.replicate n (97 : UInt8) ≠ [43] := fun h => by
    have := List.eq_of_mem_replicate (show (43 : UInt8) ∈ List.replicate n 97 by rw [h]; simp)
    revert this; decide
  have h35 : List.replicate n (97 : UInt8) ≠ [35] := fun h => by
    have := List.eq_of_mem_replicate (show (35 : UInt8) ∈ List.replicate n 97 by rw [h]; simp)
    revert this; decide
  unfold rightB patB
  rw [e]
  simp [patP, hw, h43, h35]
end Go.Tp
