/-
  What Encode hands back.
-/
import Derived.Test.YtbacdeogggcbfaaGPure
import Derived.Test.YtbacdeogggcbfaaGWords
namespace Go.Proofs.Ytbacdeogggcbfaa
open Go.RowKit Go.Rst Go.Pg Go.Crc
def GivesEnc (w : World) (lev : Int) (rs : List Rw) (e : Ending) (w' : World) : Prop :=
  ∃ v, e = .returned (.tuple #[v, .bool (pageOk lev rs)]) ∧ w'.ownsRow w.heap.size 5 1 v (encL lev rs).length (bvs (encL lev rs)) ∧ Below w.heap.size w w'
theorem encL_not {lev : Int} {rs : List Rw} (h : pageOk lev rs = false) : encL lev rs = [] := by unfold encL; simp [h]
theorem GivesEnc.not {w w' : World} {lev : Int} {rs : List Rw} (h : pageOk lev rs = false) (hb : Below w.heap.size w w') : GivesEnc w lev rs (.returned (.tuple #[.slice none 0 0, .bool false])) w' :=
  ⟨_, by rw [h], by rw [encL_not h]; exact World.ownsRow_nil _ _ _ _, hb⟩
theorem GivesEnc.mk {w w' : World} {lev : Int} {rs : List Rw} {v : Value} (h : pageOk lev rs = true) (ho : w'.ownsRow w.heap.size 5 1 v (sealL (pageB lev.toNat rs)).length (bvs (sealL (pageB lev.toNat rs)))) (hb : Below w.heap.size w w') :
    GivesEnc w lev rs (.returned (.tuple #[v, .bool true])) w' := by
  refine ⟨v, by rw [h], ?_, hb⟩
  unfold encL
  rw [if_pos h]
  exact ho
theorem page_end {lev : Nat} {rs : List Rw} : pageA (UInt8.ofNat lev) (UInt8.ofNat rs.length) (slots rs) (body rs) = pageB lev rs := rfl
end Go.Proofs.Ytbacdeogggcbfaa
