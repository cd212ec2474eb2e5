/-
  Plain mathematics: bytes as one number; the check of a row of which some bits, within 32 in a row, are others. No program.
-/
import Derived.Test.YthhopfpgnjjpdaaCAlikeM
namespace Go.Crc
open Go.Rst
def num : List UInt8 → Nat
  | [] => 0
  | c :: r => c.toNat ^^^ num r * 256
theorem csteps_add : ∀ (b a n : Nat), csteps (a + b) n = csteps a (csteps b n)
  | 0, _, _ => rfl
  | b + 1, a, n => csteps_add b a (cstep n)
theorem csteps_zero : ∀ k, csteps k 0 = 0
  | 0 => rfl
  | k + 1 => by show csteps k (cstep 0) = 0; rw [show cstep 0 = 0 from rfl, csteps_zero k]
theorem craw_num : ∀ (l : List UInt8) (t : Nat), craw t l = csteps (8 * l.length) (t ^^^ num l)
  | [], t => by simp [craw, num, csteps]
  | c :: l, t => by
    show craw (cbyte t c) l = _
    rw [craw_num l, List.length_cons, Nat.mul_succ, csteps_add]
    congr 1
    show cbyte t c ^^^ num l = csteps 8 (t ^^^ (c.toNat ^^^ num l * 256))
    rw [← Nat.xor_assoc, csteps_xor, csteps_even 8]
    rfl
theorem cstep_zero {n : Nat} (h : n < B32) (h0 : cstep n = 0) : n = 0 := by
  unfold cstep at h0
  split at h0
  · rename_i h1
    have h2 : n / 2 = poly := by
      have := congrArg (· ^^^ poly) h0
      simpa [Nat.xor_assoc] using this
    unfold poly at h2
    unfold B32 at h
    omega
  · omega
theorem csteps_inj0 : ∀ (k : Nat) {n : Nat}, n < B32 → csteps k n = 0 → n = 0
  | 0, _, _, h0 => h0
  | k + 1, _, h, h0 => cstep_zero h (csteps_inj0 k (cstep_lt h) h0)
theorem xor_eq_zero {a b : Nat} (h : a ^^^ b = 0) : a = b := by
  have := congrArg (· ^^^ b) h
  simpa [Nat.xor_assoc] using this
theorem csteps_inj (k : Nat) {a b : Nat} (ha : a < B32) (hb : b < B32) (h : csteps k a = csteps k b) : a = b := by
  apply xor_eq_zero
  apply csteps_inj0 k (xor_lt ha hb)
  rw [csteps_xor, h, Nat.xor_self]
theorem num4_lt (a b c d : UInt8) : num [a, b, c, d] < B32 := by
  have ha := a.toNat_lt; have hb := b.toNat_lt; have hc := c.toNat_lt; have hd := d.toNat_lt
  have e : num [a, b, c, d] = a.toNat ^^^ (b.toNat ^^^ (c.toNat ^^^ (d.toNat ^^^ 0 * 256) * 256) * 256) * 256 := rfl
  rw [e]
  have h1 : c.toNat ^^^ (d.toNat ^^^ 0 * 256) * 256 < 2 ^ 16 := Nat.xor_lt_two_pow (by omega) (by simp; omega)
  have h2 : b.toNat ^^^ (c.toNat ^^^ (d.toNat ^^^ 0 * 256) * 256) * 256 < 2 ^ 24 := Nat.xor_lt_two_pow (by omega) (by omega)
  exact Nat.xor_lt_two_pow (n := 32) (by omega) (by omega)
theorem low_xor (c r : Nat) (h : c < 256) : c ^^^ r * 256 = c + r * 256 := by
  have h1 := split_low (c + r * 256)
  rw [show (c + r * 256) % 256 = c from by omega, show (c + r * 256) / 256 = r from by omega] at h1
  exact h1.symm
theorem num_add (c : UInt8) (r : List UInt8) : num (c :: r) = c.toNat + num r * 256 := low_xor _ _ c.toNat_lt
theorem num_inj : ∀ (a b : List UInt8), a.length = b.length → num a = num b → a = b
  | [], [], _, _ => rfl
  | c :: a, d :: b, h, he => by
    rw [num_add, num_add] at he
    have hc := c.toNat_lt
    have hd := d.toNat_lt
    have e1 : c.toNat = d.toNat := by omega
    have e2 : num a = num b := by omega
    rw [num_inj a b (by simpa using h) e2, UInt8.toNat_inj.1 e1]
theorem num_tail {n : Nat} (h : n < B32) : num (tailL n) = n := by
  unfold tailL
  rw [num_add, num_add, num_add, num_add]
  simp only [UInt8.toNat_ofNat', num]
  unfold B32 at h
  omega
/-- What is sealed leaves always the same. -/
def residue : Nat := csteps 32 ones
theorem list4 {t : List UInt8} (h : t.length = 4) : ∃ a b c d, t = [a, b, c, d] := by
  match t, h with
  | [a, b, c, d], _ => exact ⟨a, b, c, d, rfl⟩
theorem right_iff (m : List UInt8) (h : 4 ≤ m.length) : rightL m = decide (craw ones m = residue) := by
  have hsplit := List.take_append_drop (m.length - 4) m
  have ht : (m.drop (m.length - 4)).length = 4 := by simp; omega
  unfold rightL
  generalize m.take (m.length - 4) = l at *
  generalize m.drop (m.length - 4) = t at *
  rw [Bool.eq_iff_iff]
  simp only [h, decide_true, Bool.true_and, beq_iff_eq, decide_eq_true_eq]
  have hc : craw ones l < B32 := craw_lt l ones_lt
  have hs : csum l = craw ones l ^^^ ones := by unfold csum cmore; rw [Nat.zero_xor]
  have hcr : craw ones m = csteps 32 (craw ones l ^^^ num t) := by
    rw [← hsplit, craw_append, craw_num t, ht]
  have htl : num t < B32 := by
    obtain ⟨a, b, c, d, rfl⟩ := list4 ht
    exact num4_lt a b c d
  rw [hcr]
  constructor
  · intro e
    rw [← e, num_tail (csum_lt l), hs, ← Nat.xor_assoc, Nat.xor_self, Nat.zero_xor]
    rfl
  · intro e
    have e1 := csteps_inj 32 (xor_lt hc htl) ones_lt e
    apply num_inj _ _ (by rw [ht, tailL_length])
    have e2 : craw ones l ^^^ (craw ones l ^^^ num t) = craw ones l ^^^ ones := by rw [e1]
    rw [num_tail (csum_lt l), hs, ← e2, ← Nat.xor_assoc, Nat.xor_self, Nat.zero_xor]
/-- A burst of less than 2^32 at a place within is seen. -/
theorem burst_seen (s m : List UInt8) (k p : Nat) (h4 : 4 ≤ s.length) (hlen : m.length = s.length) (hs : rightL s = true) (hp : p < B32) (hk : k ≤ 8 * s.length)
    (hm : num m = num s ^^^ p * 2 ^ k) : rightL m = decide (p = 0) := by
  rw [right_iff s h4] at hs
  have hs' : craw ones s = residue := by simpa using hs
  rw [right_iff m (by omega)]
  have e : craw ones m = residue ^^^ csteps (8 * s.length - k) p := by
    rw [craw_num, hlen, hm, ← Nat.xor_assoc, csteps_xor, ← craw_num, hs']
    congr 1
    conv => lhs; rw [show 8 * s.length = (8 * s.length - k) + k from by omega]
    rw [csteps_add, csteps_even]
  rw [e, Bool.eq_iff_iff]
  simp only [decide_eq_true_eq]
  constructor
  · intro h
    apply csteps_inj0 (8 * s.length - k) hp
    have h1 := congrArg (residue ^^^ ·) h
    simpa [← Nat.xor_assoc] using h1
  · rintro rfl
    rw [csteps_zero, Nat.xor_zero]
/-- A byte with a bit another one. -/
def flipB (c : UInt8) (j : Nat) : UInt8 := UInt8.ofNat (c.toNat ^^^ 2 ^ j)
theorem pow_lt8 {j : Nat} (h : j < 8) : 2 ^ j < 256 := Nat.pow_lt_pow_right (by decide) h
theorem flipB_toNat (c : UInt8) {j : Nat} (h : j < 8) : (flipB c j).toNat = c.toNat ^^^ 2 ^ j := by
  unfold flipB
  rw [UInt8.toNat_ofNat']
  exact Nat.mod_eq_of_lt (Nat.xor_lt_two_pow (n := 8) c.toNat_lt (pow_lt8 h))
theorem mul_xor (a b : Nat) : (a ^^^ b) * 256 = a * 256 ^^^ b * 256 := by
  have := Nat.shiftLeft_xor_distrib (a := a) (b := b) (i := 8)
  simpa [Nat.shiftLeft_eq] using this
theorem num_flip : ∀ (l : List UInt8) (k : Nat) (_ : k < 8 * l.length), num (l.set (k / 8) (flipB (l.getD (k / 8) 0) (k % 8))) = num l ^^^ 2 ^ k
  | c :: r, k, h => by
    by_cases hk : k < 8
    · rw [show k / 8 = 0 from by omega, show k % 8 = k from by omega]
      show (flipB c k).toNat ^^^ num r * 256 = (c.toNat ^^^ num r * 256) ^^^ 2 ^ k
      rw [flipB_toNat c hk, Nat.xor_assoc, Nat.xor_assoc, Nat.xor_comm (2 ^ k)]
    · have h1 : k / 8 = (k - 8) / 8 + 1 := by omega
      have h2 : k % 8 = (k - 8) % 8 := by omega
      rw [h1, h2]
      show c.toNat ^^^ num (r.set ((k - 8) / 8) (flipB (r.getD ((k - 8) / 8) 0) ((k - 8) % 8))) * 256 = (c.toNat ^^^ num r * 256) ^^^ 2 ^ k
      rw [num_flip r (k - 8) (by simp at h; omega), mul_xor, ← Nat.xor_assoc]
      congr 1
      conv => rhs; rw [show k = (k - 8) + 8 from by omega]
      rw [Nat.pow_add]
end Go.Crc
