/-
  Plain mathematics of topics and of what stands beside a message, without any program: words, parts, patterns, pairs.
-/
import Derived.Test.YtcmkmdghekkkhaaDoorMath
set_option linter.unusedVariables false
namespace Go.Tp
open Go
/-- A text as a value. -/
abbrev sv (l : List UInt8) : Value := .string ⟨l.toArray⟩
/-- A sign of a word. -/
def isW (c : UInt8) : Bool := (decide (97 ≤ c.toNat) && decide (c.toNat ≤ 122)) || (decide (48 ≤ c.toNat) && decide (c.toNat ≤ 57))
def wordB (l : List UInt8) : Bool := l.all isW && decide (0 < l.length)
/-- Parts, a sign between. -/
def splitL (c : UInt8) : List UInt8 → List (List UInt8)
  | [] => [[]]
  | x :: xs => if x = c then [] :: splitL c xs else match splitL c xs with
    | [] => [[x]]
    | p :: ps => (x :: p) :: ps
theorem splitL_ne (c : UInt8) (l : List UInt8) : splitL c l ≠ [] := by
  cases l with
  | nil => simp [splitL]
  | cons x xs =>
    rw [splitL]
    split
    · simp
    · split <;> simp
/-- A part that has no such sign, and what comes behind it. -/
theorem splitL_part (c : UInt8) (p : List UInt8) (hp : ∀ x ∈ p, x ≠ c) : ∀ l, splitL c (p ++ c :: l) = p :: splitL c l := by
  induction p with
  | nil => intro l; simp [splitL]
  | cons x xs ih =>
    intro l
    rw [List.cons_append, splitL, if_neg (hp x List.mem_cons_self), ih (fun y hy => hp y (List.mem_cons_of_mem _ hy))]
theorem splitL_last (c : UInt8) (p : List UInt8) (hp : ∀ x ∈ p, x ≠ c) : splitL c p = [p] := by
  induction p with
  | nil => rfl
  | cons x xs ih => rw [splitL, if_neg (hp x List.mem_cons_self), ih (fun y hy => hp y (List.mem_cons_of_mem _ hy))]
theorem splitL_len (c : UInt8) : ∀ l, (splitL c l).length ≤ l.length + 1 := by
  intro l
  induction l with
  | nil => simp [splitL]
  | cons x xs ih =>
    rw [splitL]
    split
    · simp only [List.length_cons]; omega
    · split
      · simp
      · rename_i h; rw [h] at ih; simp only [List.length_cons] at ih ⊢; omega
theorem splitL_mem (c : UInt8) : ∀ l p, p ∈ splitL c l → p.length ≤ l.length := by
  intro l
  induction l with
  | nil => intro p hp; simp [splitL] at hp; rw [hp]; simp
  | cons x xs ih =>
    intro p hp
    rw [splitL] at hp
    split at hp
    · rcases List.mem_cons.1 hp with h | h
      · rw [h]; simp
      · have := ih p h; simp only [List.length_cons]; omega
    · split at hp
      · rename_i h; exact absurd h (splitL_ne c xs)
      · rename_i q qs h
        rcases List.mem_cons.1 hp with h1 | h1
        · rw [h1]; have := ih q (by rw [h]; exact List.mem_cons_self); simp only [List.length_cons]; omega
        · have := ih p (by rw [h]; exact List.mem_cons_of_mem _ h1); simp only [List.length_cons]; omega
/-- May a topic be? -/
def rightB (l : List UInt8) : Bool := (splitL 47 l).all wordB && decide (l.length ≤ 30)
/-- May the parts of a pattern be? -/
def patP : List (List UInt8) → Bool
  | [] => true
  | [p] => wordB p || decide (p = [43]) || decide (p = [35])
  | p :: ps => (wordB p || decide (p = [43])) && patP ps
def patB (l : List UInt8) : Bool := patP (splitL 47 l) && decide (l.length ≤ 30)
/-- Has a pattern's parts a topic's? -/
def matP : List (List UInt8) → List (List UInt8) → Bool
  | [], [] => true
  | [], _ :: _ => false
  | _ :: _, [] => false
  | x :: xs, y :: ys => if x = [35] then true else if x ≠ [43] ∧ x ≠ y then false else matP xs ys
def matB (p t : List UInt8) : Bool := patB p && rightB t && matP (splitL 47 p) (splitL 47 t)
end Go.Tp
