/-
  Words for what Find hands back (layer state). No program but the seat's types.
-/
import Derived.Test.YtcmkmdghekkkhaaDoorTsBox
set_option linter.unusedVariables false
namespace Go.Ts
theorem find_drop {l : List Sub} {id : Int} {k : Nat} (hk : k < l.length) (h : ∀ j (hj : j < l.length), j < k → l[j].id ≠ id) (he : l[k].id = id) : findS l id = some l[k] := by
  unfold findS
  rw [List.find?_eq_some_iff_getElem]
  refine ⟨by simpa using he, k, hk, rfl, fun j hj => by simpa using h j (by omega) hj⟩
theorem find_none {l : List Sub} {id : Int} (h : ∀ j (hj : j < l.length), l[j].id ≠ id) : findS l id = none := by
  unfold findS
  rw [List.find?_eq_none]
  intro x hx
  obtain ⟨j, hj, rfl⟩ := List.getElem_of_mem hx
  simpa using h j hj
end Go.Ts
namespace Go.Proofs.YtcmkmdghekkkhaaDoor
open Go.RowKit Go.Rst Go.Tp Go.Ts
/-- A subscription, by value, and whether there is one. -/
def GivesF (w : World) (o : Option Sub) (e : Ending) (w' : World) : Prop := ∃ av qv, e = .returned (.tuple #[.agg (subC (o.getD noSub) av qv).toArray, .bool o.isSome]) ∧ RI w' av (o.getD noSub).acks ∧ RM w' qv (o.getD noSub).queue ∧ Below w.heap.size w w'
end Go.Proofs.YtcmkmdghekkkhaaDoor
