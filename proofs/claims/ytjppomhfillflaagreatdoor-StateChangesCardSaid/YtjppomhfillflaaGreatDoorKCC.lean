/-
  Plain mathematics of keys: ten digits, there and back, and their order. No program.
-/
import Derived.Lib.Atoi
import Derived.Lib.ItoaNum
import Derived.Test.YtjppomhfillflaaGreatDoorKCB
set_option linter.unusedVariables false
set_option linter.unusedVariables false
namespace Go.Tk
open Go
def pad : Nat → Nat → List UInt8
  | 0, _ => []
  | k + 1, n => pad k (n / 10) ++ [UInt8.ofNat (48 + n % 10)]
theorem pad_len : ∀ k n, (pad k n).length = k
  | 0, _ => rfl
  | k + 1, n => by simp [pad, pad_len k]
theorem dig_nat {d : Nat} (h : d < 10) : (UInt8.ofNat (48 + d)).toNat = 48 + d := by
  rw [UInt8.toNat_ofNat']
  omega
theorem dec_pad : ∀ k n, n < 10 ^ (k + 1) → List.replicate (k + 1 - (Lib.decDigits n).length) 48 ++ Lib.decDigits n = pad (k + 1) n
  | 0, n, h => by
    have h1 : n < 10 := by simpa using h
    rw [Lib.decDigits_one h1]
    simp [pad, Nat.mod_eq_of_lt h1]
  | k + 1, n, h => by
    by_cases hn : n < 10
    · have ih := dec_pad k 0 (Nat.pow_pos (by decide))
      rw [Lib.decDigits_one (by decide : 0 < 10)] at ih
      rw [Lib.decDigits_one hn]
      show _ = pad (k + 1) (n / 10) ++ [UInt8.ofNat (48 + n % 10)]
      rw [Nat.div_eq_of_lt hn, Nat.mod_eq_of_lt hn, ← ih]
      simp only [List.length_cons, List.length_nil, Nat.zero_add, Nat.add_sub_cancel, Nat.add_zero]
      rw [List.replicate_succ']
      rfl
    · have ih := dec_pad k (n / 10) (by rw [Nat.div_lt_iff_lt_mul (by decide)]; rw [Nat.pow_succ] at h; exact h)
      have hd : Lib.decDigits n = Lib.decDigits (n / 10) ++ [UInt8.ofNat (48 + n % 10)] := by rw [Lib.decDigits, dif_neg hn]
      show _ = pad (k + 1) (n / 10) ++ [UInt8.ofNat (48 + n % 10)]
      rw [hd, ← ih, List.length_append, List.length_singleton, show k + 1 + 1 - ((Lib.decDigits (n / 10)).length + 1) = k + 1 - (Lib.decDigits (n / 10)).length by omega, List.append_assoc]
theorem pad_digit : ∀ k n, ∀ b ∈ pad k n, 48 ≤ b.toNat ∧ b.toNat ≤ 57
  | 0, _, b, h => by cases h
  | k + 1, n, b, h => by
    rcases List.mem_append.1 h with h | h
    · exact pad_digit k _ b h
    · rw [List.mem_singleton.1 h, dig_nat (Nat.mod_lt _ (by decide))]
      omega
theorem decFrom_app : ∀ (l : List UInt8) (acc : Nat) (b : UInt8), Lib.decFrom acc (l ++ [b]) = (Lib.decFrom acc l).bind fun m => (Lib.digitVal b).map fun d => m * 10 + d
  | [], acc, b => by
    simp only [List.nil_append, Lib.decFrom, Option.bind_some]
    cases Lib.digitVal b <;> rfl
  | c :: l, acc, b => by
    rw [List.cons_append]
    simp only [Lib.decFrom]
    cases Lib.digitVal c with
    | none => rfl
    | some d => exact decFrom_app l _ b
theorem pad_from : ∀ k acc n, Lib.decFrom acc (pad k n) = some (acc * 10 ^ k + n % 10 ^ k)
  | 0, acc, n => by simp [pad, Lib.decFrom, Nat.mod_one]
  | k + 1, acc, n => by
    show Lib.decFrom acc (pad k (n / 10) ++ [UInt8.ofNat (48 + n % 10)]) = _
    rw [decFrom_app, pad_from k]
    have hd : Lib.digitVal (UInt8.ofNat (48 + n % 10)) = some (n % 10) := by
      have := dig_nat (Nat.mod_lt n (by decide : 0 < 10))
      have h10 := Nat.mod_lt n (by decide : 0 < 10)
      unfold Lib.digitVal
      rw [this, if_pos (by omega)]
      congr 1
      omega
    rw [hd, Option.bind_some, Option.map_some, Nat.pow_succ, Nat.mul_comm (10 ^ k) 10, Nat.mod_mul]
    congr 1
    have : acc * (10 * 10 ^ k) = 10 * (acc * 10 ^ k) := by rw [← Nat.mul_assoc, Nat.mul_comm acc 10, Nat.mul_assoc]
    rw [this]
    omega
theorem atoi_pad (k n : Nat) (h : n < 10 ^ (k + 1)) : Lib.atoi (pad (k + 1) n) = some (n : Int) := by
  have hl := pad_len (k + 1) n
  have hd := pad_digit (k + 1) n
  have hf := pad_from (k + 1) 0 n
  rw [Nat.mod_eq_of_lt h, Nat.zero_mul, Nat.zero_add] at hf
  cases hp : pad (k + 1) n with
  | nil => rw [hp] at hl; cases hl
  | cons b r =>
    rw [hp] at hd hf
    have hb := hd b List.mem_cons_self
    have h45 : (b == 45) = false := by rw [beq_eq_false_iff_ne]; intro e; subst e; have := hb.1; revert this; decide
    have h43 : (b == 43) = false := by rw [beq_eq_false_iff_ne]; intro e; subst e; have := hb.1; revert this; decide
    have hn : Lib.decNat (b :: r) = some n := by unfold Lib.decNat; simp [hf]
    simp only [Lib.atoi, h45, h43, hn]
    rfl
def keyL (v : Nat) (t : UInt8) (id seq : Nat) : List UInt8 := [UInt8.ofNat (48 + v), t] ++ (pad 10 id ++ pad 10 seq)
theorem key_len (v : Nat) (t : UInt8) (id seq : Nat) : (keyL v t id seq).length = 22 := by simp [keyL, pad_len]
end Go.Tk
