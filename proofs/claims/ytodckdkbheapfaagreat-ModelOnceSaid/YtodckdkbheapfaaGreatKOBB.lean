/-
  Signs of a text that are no bytes of ASCII: all their bytes are high. No program.
-/
import Derived.Laws.RangeAny
import Derived.Lib.OthersKept
set_option linter.unusedVariables false
namespace Go.Tp
open Go
theorem dec_high (s : ByteArray) (pos : Nat) (h : pos < s.size) (ha : 128 ≤ (s[pos]'h).toNat) :
    128 ≤ (Utf8.decode s pos).1 ∧ 1 ≤ (Utf8.decode s pos).2 ∧ pos + (Utf8.decode s pos).2 ≤ s.size ∧ ∀ j (hj : j < s.size), pos ≤ j → j < pos + (Utf8.decode s pos).2 → 128 ≤ (s[j]'hj).toNat := by
  refine ⟨(decode_high s pos h ha).1, (decode_high s pos h ha).2, ?_⟩
  have hg : ∀ k (hk : pos + k < s.size), s.get! (pos + k) = s[pos + k]'hk := fun k hk => by
    show s.get! (pos + k) = _
    simp [ByteArray.get!, getElem!_pos, hk]
    rfl
  have hn : ¬ (s[pos]'h).toNat < 128 := by omega
  have key : (Utf8.decode s pos).2 = 1 ∨ ((Utf8.decode s pos).2 ≤ 4 ∧ pos + (Utf8.decode s pos).2 ≤ s.size ∧ ∀ k, 1 ≤ k → k < (Utf8.decode s pos).2 → (s.get! (pos + k)).toNat / 64 = 2) := by
    simp only [Utf8.decode, get_at s pos h, hn, if_false]
    split
    · rename_i hc
      simp only [Bool.and_eq_true, decide_eq_true_eq, beq_iff_eq] at hc
      split
      · right
        refine ⟨by omega, by omega, fun k h1 h2 => ?_⟩
        obtain rfl : k = 1 := by omega
        exact hc.2.2
      · left; rfl
    · split
      · rename_i hc
        simp only [Bool.and_eq_true, decide_eq_true_eq, beq_iff_eq] at hc
        split
        · right
          refine ⟨by omega, by omega, fun k h1 h2 => ?_⟩
          rcases (show k = 1 ∨ k = 2 by omega) with rfl | rfl
          · exact hc.1.2.2
          · exact hc.2.2
        · left; rfl
      · split
        · rename_i hc
          simp only [Bool.and_eq_true, decide_eq_true_eq, beq_iff_eq] at hc
          split
          · right
            refine ⟨by omega, by omega, fun k h1 h2 => ?_⟩
            rcases (show k = 1 ∨ k = 2 ∨ k = 3 by omega) with rfl | rfl | rfl
            · exact hc.1.1.2.2
            · exact hc.1.2.2
            · exact hc.2.2
          · left; rfl
        · left; rfl
  rcases key with h1 | ⟨h4, h5, h6⟩
  · rw [h1]
    refine ⟨by omega, fun j hj h2 h3 => ?_⟩
    obtain rfl : j = pos := by omega
    exact ha
  · refine ⟨h5, fun j hj h2 h3 => ?_⟩
    by_cases e : j = pos
    · subst e; exact ha
    · have := h6 (j - pos) (by omega) (by omega)
      have e2 : pos + (j - pos) = j := by omega
      rw [hg (j - pos) (by omega)] at this
      simp only [e2] at this
      omega
end Go.Tp
