/-
  What the row's condition on the two tables gives a walk: their cells; and a world that meets it: the heap that the tables' own initialisers leave.
-/
import Derived.Test.YtbfemhhmijlmlaaDoorRows
import Derived.Test.YtbfemhhmijlmlaaDoorTables
import Derived.LaidMore
import Derived.Lib.LaidTab
import Derived.Stop.Joined
namespace Go.Proofs.YtbfemhhmijlmlaaDoor
open Go.RowKit Go.Rst Go.Sha

def laid2 : List (String × DataW Unit) := [("roadstead/sha.rounds", Rows.laid_roadstead_sha_rounds), ("roadstead/sha.begins", Rows.laid_roadstead_sha_begins)]
theorem gRounds : Tryd.prog.globalNamed "roadstead/sha.rounds" = some 0 := by kernel_rfl
theorem gBegins : Tryd.prog.globalNamed "roadstead/sha.begins" = some 1 := by kernel_rfl
theorem tRounds : (Tryd.prog.globals[0]?).map (·.type) = some 40 := by kernel_rfl
theorem tBegins : (Tryd.prog.globals[1]?).map (·.type) = some 31 := by kernel_rfl
def ints (l : List UInt32) : List Int := l.map fun x => (x.toNat : Int)
theorem dRounds : (Rows.laid_roadstead_sha_rounds : DataW Unit) = Lib.tabData .u32 (ints kts) := by kernel_rfl
theorem dBegins : (Rows.laid_roadstead_sha_begins : DataW Unit) = Lib.tabData .u32 (ints hbs) := by kernel_rfl
theorem ints_cell (l : List UInt32) (i : Nat) (h : i < l.length) : (((ints l).map fun z => Value.int .u32 z).toArray)[i]? = some (wv (l.getD i 0)) := by
  simp [ints, List.getElem?_eq_getElem h, wv]
theorem c27 : Tryd.prog.cellsOf 27 = 1 := by kernel_rfl
theorem c40 : Tryd.prog.cellsOf 40 = 64 := by kernel_rfl
theorem c31 : Tryd.prog.cellsOf 31 = 8 := by kernel_rfl

theorem of_laid {W : World} (h : laidMetH Tryd.prog laid2 W) : Laid W := by
  rw [MakeChecks.laidMetH_plain _ _ _ (by kernel_rfl)] at h
  obtain ⟨ps, ⟨g0, t0, cs0, f0, p0, q0, hg0, ht0, hv0, hd0, ⟨g1, t1, cs1, f1, p1, q1, hg1, ht1, hv1, hd1, _, _⟩, _⟩, _, _⟩ := h
  obtain rfl := Option.some.inj (gRounds.symm.trans hg0)
  obtain rfl := Option.some.inj (gBegins.symm.trans hg1)
  obtain rfl := Option.some.inj (tRounds.symm.trans ht0)
  obtain rfl := Option.some.inj (tBegins.symm.trans ht1)
  rw [dRounds] at hd0
  rw [dBegins] at hd1
  have e0 := Lib.cells_of_tab Tryd.underlying40 Tryd.underlying27 c27 c40 hd0
  have e1 := Lib.cells_of_tab Tryd.underlying31 Tryd.underlying27 c27 c31 hd1
  refine ⟨fun i hi => ?_, fun i hi => ?_⟩
  · have := World.var?_cell hg0 hv0 i
    rw [this, ← ints_cell kts i hi, ← e0]
  · have := World.var?_cell hg1 hv1 i
    rw [this, ← ints_cell hbs i hi, ← e1]

/-- The door's own heap meets the condition. -/
theorem door_met (os : Os) (args : Array Value) : laidMetH Tryd.prog laid2 ((World.doorLaid Tryd.prog 19 os).forCall (fun _ _ => 0) ⟨#[], args, []⟩).memory :=
  laidMetH_of_parts3 (fuel := 8) (laidMet_of_run' 8 (by kernel_rfl) (by kernel_rfl)) (by kernel_rfl) (by kernel_rfl)
end Go.Proofs.YtbfemhhmijlmlaaDoor
