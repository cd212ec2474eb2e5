/-
  Words for a region that draws its order and holds calls that make memory: what lay below each world that was met is kept. No program, no condition.
-/
import Derived.Test.YtcmkmdghekkkhaaDoorBase
import Derived.Deep.RegionHeld3
namespace Go.Rst
open Go.RowKit
/-- What was there in each of these worlds is there still. -/
def SB (ws : List World) (W : World) : Prop := ∀ x ∈ ws, Below x.heap.size x W
theorem SB.start (w : World) : SB [w] w.drew := fun x hx => by
  obtain rfl : x = w := by simpa using hx
  exact (Below.refl _ _).drew
theorem SB.step {ws : List World} {y z : World} (h : SB ws y) (hb : Below y.heap.size y z) : SB ws z := fun x hx => (h x hx).trans (hb.mono (h x hx).size)
theorem SB.more {ws : List World} {z : World} (h : SB ws z) : SB (z :: ws) z := fun x hx => by
  rcases List.mem_cons.1 hx with rfl | hx
  · exact Below.refl _ _
  · exact h x hx
theorem SB.less {ws : List World} {z : World} (W : World) (h : SB (z :: ws) W) : SB ws W := fun x hx => h x (List.mem_cons_of_mem _ hx)
theorem SB.same {ws : List World} {y z : World} (h : SB ws y) (e : y = z) : SB ws z := e ▸ h
section
variable {a b c d e f g i j k l m : World} {ws : List World} {W : World}
theorem SB.b0 (h : SB (a :: ws) W) : Below a.heap.size a W := h _ (by simp)
theorem SB.b1 (h : SB (a :: b :: ws) W) : Below b.heap.size b W := h _ (by simp)
theorem SB.b2 (h : SB (a :: b :: c :: ws) W) : Below c.heap.size c W := h _ (by simp)
theorem SB.b3 (h : SB (a :: b :: c :: d :: ws) W) : Below d.heap.size d W := h _ (by simp)
theorem SB.b4 (h : SB (a :: b :: c :: d :: e :: ws) W) : Below e.heap.size e W := h _ (by simp)
theorem SB.b5 (h : SB (a :: b :: c :: d :: e :: f :: ws) W) : Below f.heap.size f W := h _ (by simp)
theorem SB.b6 (h : SB (a :: b :: c :: d :: e :: f :: g :: ws) W) : Below g.heap.size g W := h _ (by simp)
theorem SB.b7 (h : SB (a :: b :: c :: d :: e :: f :: g :: i :: ws) W) : Below i.heap.size i W := h _ (by simp)
theorem SB.b8 (h : SB (a :: b :: c :: d :: e :: f :: g :: i :: j :: ws) W) : Below j.heap.size j W := h _ (by simp)
theorem SB.b9 (h : SB (a :: b :: c :: d :: e :: f :: g :: i :: j :: k :: ws) W) : Below k.heap.size k W := h _ (by simp)
theorem SB.b10 (h : SB (a :: b :: c :: d :: e :: f :: g :: i :: j :: k :: l :: ws) W) : Below l.heap.size l W := h _ (by simp)
theorem SB.b11 (h : SB (a :: b :: c :: d :: e :: f :: g :: i :: j :: k :: l :: m :: ws) W) : Below m.heap.size m W := h _ (by simp)
end
/-- What holds in a region may be made to say more on the way. -/
theorem wpAnyH_more {P : Program} {md : Region.Mode} {ops : Array Oper} {Q : Exit → Act → World → Prop} {S S' : World → Prop} (himp : ∀ W, S' W → S W) :
    ∀ (fuel : Nat) (listed : Array Bool) (a : Act) (w : World), wpAnyH P md ops Q S' fuel listed a w → wpAnyH P md ops Q S fuel listed a w
  | 0, _, _, _, h => h
  | fuel + 1, _, _, _, h => ⟨h.1, fun i hi => wpOp_mono (fun a' w' h' => ⟨himp w' h'.1, wpAnyH_more himp fuel _ a' w' h'.2⟩) (h.2 i hi)⟩
end Go.Rst
