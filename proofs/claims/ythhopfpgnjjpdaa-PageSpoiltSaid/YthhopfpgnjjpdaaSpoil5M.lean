/-
  Plain mathematics: a page with a byte another one is none. No program.
-/
import Derived.Test.YthhopfpgnjjpdaaCBurstM
import Derived.Test.YthhopfpgnjjpdaaPMath2
namespace Go.Pg
open Go.Rst Go.Crc
theorem num_set : ∀ (l : List UInt8) (k : Nat) (v : UInt8) (h : k < l.length), num (l.set k v) = num l ^^^ (l[k].toNat ^^^ v.toNat) * 2 ^ (8 * k)
  | c :: r, 0, v, _ => by
    show v.toNat ^^^ num r * 256 = (c.toNat ^^^ num r * 256) ^^^ (c.toNat ^^^ v.toNat) * 2 ^ (8 * 0)
    rw [Nat.mul_zero, Nat.pow_zero, Nat.mul_one, Nat.xor_comm c.toNat (num r * 256), Nat.xor_assoc, ← Nat.xor_assoc c.toNat c.toNat, Nat.xor_self, Nat.zero_xor, Nat.xor_comm]
  | c :: r, k + 1, v, h => by
    have hk : k < r.length := by simpa using h
    show c.toNat ^^^ num (r.set k v) * 256 = (c.toNat ^^^ num r * 256) ^^^ (r[k].toNat ^^^ v.toNat) * 2 ^ (8 * (k + 1))
    rw [num_set r k v hk, mul_xor, ← Nat.xor_assoc]
    congr 1
    rw [show 8 * (k + 1) = 8 * k + 8 from by omega, Nat.pow_add, Nat.mul_assoc]
theorem spoilt {s : List UInt8} (hs : rightL s = true) (h4 : 4 ≤ s.length) {k : Nat} (hk : k < s.length) (v : UInt8) : rightL (s.set k v) = decide (v = s[k]) := by
  have h1 := s[k].toNat_lt
  have h2 := v.toNat_lt
  have hp : s[k].toNat ^^^ v.toNat < B32 := by
    have := Nat.xor_lt_two_pow (n := 8) h1 h2
    unfold B32
    omega
  rw [burst_seen s (s.set k v) (8 * k) (s[k].toNat ^^^ v.toNat) h4 (by simp) hs hp (by omega) (num_set s k v hk), Bool.eq_iff_iff]
  simp only [decide_eq_true_eq]
  constructor
  · intro h
    exact (UInt8.toNat_inj.1 (xor_eq_zero h)).symm
  · intro h
    rw [h, Nat.xor_self]
/-- What Decode tells of a page with a byte another one. -/
theorem dec_set {lev : Int} {rs : List Rw} (h : pageOk lev rs = true) {k : Nat} (hk : k < (encL lev rs).length) (v : UInt8) :
    (v = (encL lev rs)[k] ∧ (decR ((encL lev rs).set k v)).2.2 = 0) ∨ (v ≠ (encL lev rs)[k] ∧ (decR ((encL lev rs).set k v)).2.2 = 12) := by
  have hl := encL_length h
  by_cases e : v = (encL lev rs)[k]
  · left
    refine ⟨e, ?_⟩
    rw [e, List.set_getElem_self, dec_enc h]
  · right
    refine ⟨e, ?_⟩
    have hr : rightL (encL lev rs) = true := by unfold encL; rw [if_pos h]; exact right_seal _
    have := spoilt hr (by omega) hk v
    rw [decide_eq_false e] at this
    unfold decR
    rw [if_neg (by simp [hl]), if_pos this]
theorem dec_short {l : List UInt8} (h : l.length < 256) : decR l = (0, [], 11) := by
  unfold decR
  rw [if_pos (by omega)]
end Go.Pg
