/-
  The contract of code.row: a row of a key and a value of at most a billion bytes each makes their texts, one behind the other.
-/
import Derived.Test.YtomkbgghljcbfaaGNum
import Derived.Deep.RegionHeld3
import Derived.Deep.AppendLies
namespace Go.Proofs.Ytomkbgghljcbfaa
open Go.RowKit Go.Rst

theorem row_keep {w X w3 : World} {g : Nat} {k v : Value} {l : List UInt8} (hb : Below X.heap.size X w3) (h0 : X.cell? ⟨g, 0, none⟩ = some k) (h1 : X.cell? ⟨g, 1, none⟩ = some v)
    (hr : RB X v l) (hB : Below w.heap.size w X) (hs : g < X.heap.size) :
    w3.cell? ⟨g, 0, none⟩ = some k ∧ w3.cell? ⟨g, 1, none⟩ = some v ∧ (convert 23 9 v).run Try.prog w3 = .ok (.string ⟨l.toArray⟩) w3 ∧ RB w3 v l ∧ Below w.heap.size w w3 ∧ g < w3.heap.size :=
  ⟨(hb.cell (p := ⟨g, 0, none⟩) hs).trans h0, (hb.cell (p := ⟨g, 1, none⟩) hs).trans h1, (hr.below hb).str Try.underlying23 Try.underlying5 Try.underlying9, hr.below hb, hB.trans (hb.mono hB.size), by have := hb.size; omega⟩

theorem row_kept {w X w3 : World} {g : Nat} {k v : Value} {l : List UInt8}
    (h : X.cell? ⟨g, 0, none⟩ = some k ∧ X.cell? ⟨g, 1, none⟩ = some v ∧ (convert 23 9 v).run Try.prog X = .ok (.string ⟨l.toArray⟩) X ∧ RB X v l ∧ Below w.heap.size w X ∧ g < X.heap.size)
    (hb : Below X.heap.size X w3) :
    w3.cell? ⟨g, 0, none⟩ = some k ∧ w3.cell? ⟨g, 1, none⟩ = some v ∧ (convert 23 9 v).run Try.prog w3 = .ok (.string ⟨l.toArray⟩) w3 ∧ RB w3 v l ∧ Below w.heap.size w w3 ∧ g < w3.heap.size :=
  row_keep hb h.1 h.2.1 h.2.2.2.1 h.2.2.2.2.1 h.2.2.2.2.2

theorem row_bel {w X : World} {g : Nat} {k v : Value} {l : List UInt8}
    (h : X.cell? ⟨g, 0, none⟩ = some k ∧ X.cell? ⟨g, 1, none⟩ = some v ∧ (convert 23 9 v).run Try.prog X = .ok (.string ⟨l.toArray⟩) X ∧ RB X v l ∧ Below w.heap.size w X ∧ g < X.heap.size) : Below w.heap.size w X := h.2.2.2.2.1

end Go.Proofs.Ytomkbgghljcbfaa
