/-
  More plain facts on bytes.
-/
import Derived.Test.YtjanggdjbieceaaMath
namespace Go.Rst
theorem or128_u8 (c : UInt8) : bits .or .u8 (c.toNat : Int) 128 = ((c ||| 128).toNat : Int) := by
  have h : ∀ m : Nat, m < 256 → bits .or .u8 (m : Int) 128 = ((UInt8.ofNat m ||| 128).toNat : Int) := by decide +kernel
  have := h c.toNat c.toNat_lt
  rwa [UInt8.ofNat_toNat] at this
theorem bvs_setLast {L : List UInt8} (h : 0 < L.length) (d : UInt8) : (bvs L).set (L.length - 1) (bv d) = bvs (L.dropLast ++ [d]) := by
  have hne : L ≠ [] := by intro e; subst e; simp at h
  obtain ⟨M, x, rfl⟩ : ∃ M x, L = M ++ [x] := ⟨L.dropLast, L.getLast hne, (List.dropLast_concat_getLast hne).symm⟩
  simp [bvs]
theorem src_oneg {P : Program} (w : World) {g : Nat} (hg : w.heap.size = g) {tx e' : TypeId} (hk : P.underlying tx = some (.slice e')) (e : TypeId) (u : Value) (h1 : u.oneCell' = true) : Src P 1 tx (.slice (some ⟨g, 0, none⟩) 1 1) 1 [u] (w.alloc (.cells #[u] e)) := by
  subst hg
  exact src_one w hk e u h1
end Go.Rst
