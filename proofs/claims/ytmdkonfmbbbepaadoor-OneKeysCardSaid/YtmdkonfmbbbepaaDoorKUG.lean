/-
  What came in, opened: bytes; and what each may take up. No condition beyond those that each theorem states.
-/
import Derived.Deep.SlicePairs
import Derived.Deep.Slices
import Derived.SizedLaws
import Derived.ProofKit
import Derived.OpenShut
import Derived.Test.YtmdkonfmbbbepaaDoorKUB
set_option linter.unusedVariables false
namespace Go.Proofs.YtmdkonfmbbbepaaDoor
open Go.Rst
open Go.ChangeShapes Go.WideShapes Go.ChangeAt Go.RowKit
theorem row_part {W : World} {a : Addr} {len cap : Nat} {zs : List Int} (hl : len ≤ cap) (hm : cap ≤ maxLen) (hzl : len ≤ zs.length) (hcell : ∀ i, i < zs.length → W.cell? (a.add i) = some (.int .u8 (zs.getD i 0))) (hwf : ∀ n ∈ zs, (Lit.int .u8 n).wf = true) :
    ∃ l : List UInt8, len = l.length ∧ RB W (.slice (some a) l.length cap) l := by
  have hlen : ((zs.take len).map fun z => UInt8.ofNat z.toNat).length = len := by simp; omega
  refine ⟨(zs.take len).map fun z => UInt8.ofNat z.toNat, hlen.symm, some a, cap, rfl, by omega, hm, ?_⟩
  rcases Nat.eq_zero_or_pos len with h0 | h0
  · exact .inl (List.eq_nil_of_length_eq_zero (by omega))
  · obtain ⟨b, off, spot⟩ := a
    have hc := hcell 0 (by omega)
    have hspot : spot = none := by simpa [Addr.add] using World.cell?_spot hc
    subst hspot
    refine .inr ⟨b, off, rfl, ?_, fun j hj => ?_⟩
    · have h1 := block_lt_of_cell hc
      rw [Addr.add_lit] at h1
      exact h1
    · rw [hlen] at hj
      have h1 := hcell j (by omega)
      rw [Addr.add_lit] at h1
      rw [h1]
      have hj' : j < zs.length := by omega
      have e : (zs.getD j 0) = zs[j] := by rw [List.getD_eq_getElem?_getD, List.getElem?_eq_getElem hj']; simp
      have h2 := hwf zs[j] (List.getElem_mem hj')
      simp only [Lit.wf, Bool.and_eq_true, decide_eq_true_eq] at h2
      have mn : IntKind.u8.min = 0 := rfl
      have mx : IntKind.u8.max = 255 := rfl
      rw [mn, mx] at h2
      rw [e]
      unfold bv
      congr 2
      simp only [List.getElem_map, List.getElem_take, UInt8.toNat_ofNat']
      omega
theorem by5 : Tryd.prog.bytesOf 5 = 1 := by kernel_rfl
theorem reach_le : reachBytes ≤ 140737488351232 := by decide
section
variable {H : Type} {enc : TypeId × Value → H} {W : World} {base : Nat} {spare : Nat → Bool} {held : Bool} {fuel : Nat}
theorem open_bytes {v : Value} {x : DataW H × List MemPlace} (h : DataW.trod enc Tryd.prog W base spare held fuel 22 [v] = some x) (hw : ∀ n ∈ x.1.weights Tryd.prog 22, n ≤ reachBytes) :
    ∃ l : List UInt8, RB W v l ∧ l.length ≤ 140737488351232 := by
  have hr := reach_le
  rcases open_ints Tryd.underlying22 Tryd.underlying5 (by kernel_rfl) h with ⟨hcs, hx⟩ | ⟨a, len, cap, zs, hcs, _, hl, hm, hz, hx, hcell, hwz⟩
  · simp only [List.cons.injEq, and_true] at hcs
    subst hcs
    exact ⟨[], RB.nil_ W, by simp⟩
  · simp only [List.cons.injEq, and_true] at hcs
    subst hcs
    have hzl : len ≤ zs.length := by rw [hz]; split <;> omega
    obtain ⟨l, hll, hrb⟩ : ∃ l : List UInt8, len = l.length ∧ RB W (.slice (some a) l.length cap) l := row_part hl hm hzl hcell hwz
    refine ⟨l, by rw [hll]; exact hrb, ?_⟩
    subst hx
    have h1 := hw (((lits (H := H) .u8 (zs.take len)).length + (lits (H := H) .u8 (zs.drop len)).length) * Tryd.prog.bytesOf 5) (by simp [DataW.weights, Tryd.underlying22])
    rw [by5] at h1
    simp only [lits, List.length_map, List.length_take] at h1
    omega
end
end Go.Proofs.YtmdkonfmbbbepaaDoor
