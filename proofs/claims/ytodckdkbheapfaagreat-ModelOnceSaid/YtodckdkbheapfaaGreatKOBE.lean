/-
  Words for a range over a function: cells that lie as they lay, the marks of loops. No program but the seat's types.
-/
import Derived.RangeFuncNested
import Derived.RangeFuncBound
import Derived.RangeFuncCalls
import Derived.RangeFuncLeaves
import Derived.RangeFuncBox
import Derived.Shelf.Abstract
import Derived.Shelf.RegionOpen
import Derived.WalkKit
import Derived.OwnWalkIn
import Derived.TacticsInMore
import Derived.LoopNIn
import Derived.LoopIn
import Derived.Test.YtodckdkbheapfaaGreatKOE
import Derived.OrdersIn
import Derived.TacticsIn
set_option linter.unusedVariables false
namespace Go.Proofs.YtodckdkbheapfaaGreat
open Go.RowKit Go.Rst Go.Shelf
theorem grown_none {w w' : World} (h : Below w.heap.size w w') : w.grownBy w' none := ⟨h.os, h.tape, h.output, h.size, fun k hk _ => h.block k hk⟩
structure KX (p : Nat → TypeId → Prop) (w w' : World) : Prop where
  size : w.heap.size ≤ w'.heap.size
  same : ∀ (k : Nat) (cs : Array Value) (t : TypeId) (f : Nat × Nat), p k t → w.heap[k]? = some (.cells cs t f) → w'.heap[k]? = some (.cells cs t f)
theorem KX.of_grown {p : Nat → TypeId → Prop} {w w' : World} {row : Option Nat} (hg : w.grownBy w' row) (hr : ∀ r, row = some r → ∃ o : Obj, w.heap[r]? = some o ∧ o.isCells = false) : KX p w w' := by
  refine ⟨hg.size, fun k cs t f _ hk => (hg.block k (Array.getElem?_eq_some_iff.1 hk).1 (fun he => ?_)).trans hk⟩
  obtain ⟨o, ho, hc⟩ := hr k he.symm
  rw [hk] at ho
  cases ho
  cases hc
theorem KX.below {p : Nat → TypeId → Prop} {w w' : World} (h : Below w.heap.size w w') : KX p w w' := ⟨h.size, fun k _ _ _ _ hk => (h.block k (Array.getElem?_eq_some_iff.1 hk).1).trans hk⟩
theorem KX.boxed {p : Nat → TypeId → Prop} {w w' : World} (h : KX p w w') {B : Nat} {t : TypeId} {v : Value} (hp : p B t) (hb : Boxed w B t v) : Boxed w' B t v := h.same _ _ _ _ hp hb
def Marks (base hi : Nat) (W : World) : List Deferred → Prop
  | [] => True
  | d :: ds => (∃ D, d = { target := .collected D, args := #[] } ∧ base ≤ D ∧ D < hi ∧ W.heap[D]? = some (.deferred (some [])) ∧ ∀ d' ∈ ds, d' ≠ d) ∧ Marks base hi W ds
theorem Marks.keep {base hi : Nat} {W W' : World} : ∀ {ds : List Deferred}, Marks base hi W ds → (∀ D, D < hi → W.heap[D]? = some (.deferred (some [])) → W'.heap[D]? = some (.deferred (some []))) → Marks base hi W' ds
  | [], _, _ => trivial
  | _ :: _, ⟨⟨D, h1, h2, h3, h4, h5⟩, hr⟩, hk => ⟨⟨D, h1, h2, h3, hk D h3 h4, h5⟩, hr.keep hk⟩
theorem Marks.wide {base hi hi' : Nat} {W : World} (hh : hi ≤ hi') : ∀ {ds : List Deferred}, Marks base hi W ds → Marks base hi' W ds
  | [], _ => trivial
  | _ :: _, ⟨⟨D, h1, h2, h3, h4, h5⟩, hr⟩ => ⟨⟨D, h1, h2, by omega, h4, h5⟩, hr.wide hh⟩
theorem Marks.far {base hi : Nat} {W : World} {D : Nat} (o : Obj) : ∀ {ds : List Deferred}, Marks base hi W ds → (∀ d ∈ ds, d ≠ { target := .collected D, args := #[] }) → Marks base hi (W.putObj D o) ds
  | [], _, _ => trivial
  | _ :: _, ⟨⟨D', h1, h2, h3, h4, h5⟩, hr⟩, hn => by
    refine ⟨⟨D', h1, h2, h3, (World.putObj_heap_other (fun e => ?_)).trans h4, h5⟩, hr.far o (fun d hd => hn d (List.mem_cons_of_mem _ hd))⟩
    exact hn _ (List.mem_cons_self) (by rw [h1]; subst e; rfl)
theorem KX.trans {p : Nat → TypeId → Prop} {A B C : World} (h : KX p A B) (k : KX p B C) : KX p A C := ⟨Nat.le_trans h.size k.size, fun i cs t f hp hi => k.same i cs t f hp (h.same i cs t f hp hi)⟩
theorem leaves_marks {F : Fence} {n : Nat} {P : Program} {fn : Func} {tmps : Array Value} {R : Ending → World → Prop} {base hi : Nat} : ∀ {ds : List Deferred} {W : World}, Marks base hi W ds →
    (∀ W', KX (fun _ _ => True) W W' → Below base W W' → ∃ v, (results fn tmps).run P W' = .ok v W' ∧ R (.returned v) W') → LeavesInM F n P fn tmps R ds .returning W
  | [], W, _, h => h W (KX.below (Below.refl _ _)) (Below.refl _ _)
  | _ :: ds, W, ⟨⟨D, rfl, h2, h3, h4, h5⟩, hr⟩, h => by
    refine ⟨by simp, .inl ⟨D, _, rfl, run_takeDeferred h4, ?_⟩⟩
    refine leaves_marks (base := base) (hi := hi) (hr.far _ h5) (fun W' hk hb => h W' (KX.trans (KX.of_grown (grownBy_putObj' W D _) (fun r e => by cases e; exact ⟨_, h4, rfl⟩)) hk) (Below.trans ?_ hb))
    exact ⟨rfl, rfl, rfl, by simp, fun k hk => World.putObj_heap_other (by omega)⟩
end Go.Proofs.YtodckdkbheapfaaGreat
