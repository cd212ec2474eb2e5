/-
  What a slice of bytes that came in reads as: a row of integers that fit a byte is bytes. No program.
-/
import Derived.Test.YtbfemhhmijlmlaaDoorBase
import Derived.OpenShut
namespace Go.Rst
open Go.RowKit
/-- A slice of integers that came in, as the frame opens it. -/
def IsRow (k : IntKind) (w : World) (a : Option Addr) (len cap : Nat) (zs : List Int) : Prop :=
  (a = none ∧ len = 0 ∧ cap = 0 ∧ zs = []) ∨
  ∃ x, a = some x ∧ len ≤ cap ∧ cap ≤ maxLen ∧ zs.length = cap ∧ (∀ i, i < zs.length → w.cell? (x.add i) = some (.int k (zs.getD i 0))) ∧ ∀ n ∈ zs, (Lit.int k n).wf = true
theorem row_rb {w : World} {a : Option Addr} {len cap : Nat} {zs : List Int} (h : IsRow .u8 w a len cap zs) : ∃ l : List UInt8, len = l.length ∧ RB w (.slice a l.length cap) l := by
  rcases h with ⟨rfl, rfl, rfl, rfl⟩ | ⟨x, rfl, hl, hm, hz, hcell, hwf⟩
  · exact ⟨[], rfl, RB.nil_ w⟩
  · have hlen : ((zs.take len).map fun z => UInt8.ofNat z.toNat).length = len := by simp [hz, hl]
    refine ⟨(zs.take len).map fun z => UInt8.ofNat z.toNat, hlen.symm, some x, cap, rfl, by omega, hm, ?_⟩
    rcases Nat.eq_zero_or_pos len with h0 | h0
    · exact .inl (List.eq_nil_of_length_eq_zero (by omega))
    · obtain ⟨b, off, spot⟩ := x
      have hc := hcell 0 (by omega)
      have hspot : spot = none := by simpa [Addr.add] using World.cell?_spot hc
      subst hspot
      refine .inr ⟨b, off, rfl, ?_, fun j hj => ?_⟩
      · have h1 := block_lt_of_cell hc
        rw [Addr.add_lit] at h1
        exact h1
      · rw [hlen] at hj
        have h1 := hcell j (by omega)
        rw [Addr.add_lit] at h1
        rw [h1]
        have hj' : j < zs.length := by omega
        have h2 := hwf (zs.getD j 0) (by rw [List.getD_eq_getElem?_getD, List.getElem?_eq_getElem hj']; simp)
        simp only [Lit.wf, Bool.and_eq_true, decide_eq_true_eq] at h2
        have mn : IntKind.u8.min = 0 := rfl
        have mx : IntKind.u8.max = 255 := rfl
        rw [mn, mx] at h2
        have e : (zs.getD j 0) = zs[j] := by rw [List.getD_eq_getElem?_getD, List.getElem?_eq_getElem hj']; simp
        rw [e] at h2 ⊢
        unfold bv
        congr 2
        simp only [List.getElem_map, List.getElem_take, UInt8.toNat_ofNat']
        omega
end Go.Rst
