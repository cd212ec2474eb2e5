/-
  The contract of the document's own message (layer state).; The contract of the document's own fields (layer state).
-/
import Derived.Test.YtmdkonfmbbbepaaDoorKTJ
import Derived.Test.YtmdkonfmbbbepaaDoorKTBC
set_option linter.unusedVariables false
set_option linter.unusedVariables false
namespace Go.Proofs.YtmdkonfmbbbepaaDoor
open Go.RowKit Go.Rst Go.Tp Go.Ts
theorem below_two (w : World) (a b : Array Value) (t u : TypeId) : Below w.heap.size w ((w.alloc (.cells a t)).alloc (.cells b u)) := ((Below.refl _ w).alloc (Nat.le_refl _) _).alloc (by simp) _
end Go.Proofs.YtmdkonfmbbbepaaDoor
set_option linter.unusedVariables false
set_option linter.unusedSimpArgs false
namespace Go.Proofs.YtmdkonfmbbbepaaDoor
open Go.RowKit Go.Rst Go.Tp Go.Ts
structure BX (w : World) (g : Nat) (cs : List Value) : Prop where
  lt : g < w.heap.size
  at_ : ∀ i (h : i < cs.length), w.cell? ⟨g, i, none⟩ = some cs[i]
theorem BX.below {w w' : World} {g : Nat} {cs : List Value} (h : BX w g cs) (hb : Below w.heap.size w w') : BX w' g cs := ⟨Nat.lt_of_lt_of_le h.lt hb.size, fun i hi => (hb.cell (p := ⟨g, i, none⟩) h.lt).trans (h.at_ i hi)⟩
theorem BX.cell {w : World} {g : Nat} {cs : List Value} (h : BX w g cs) {i : Nat} (hi : i < cs.length) : w.cell? ⟨g, i, none⟩ = some cs[i] := h.at_ i hi
theorem BX.new (w : World) (cs : List Value) (t : TypeId) : BX (w.alloc (.cells cs.toArray t)) w.heap.size cs :=
  ⟨by simp, fun i hi => by rw [cell_of_row _ w.heap.size i cs.toArray t (0, 0) (heap_alloc_new w _)]; simp [hi]⟩
end Go.Proofs.YtmdkonfmbbbepaaDoor
