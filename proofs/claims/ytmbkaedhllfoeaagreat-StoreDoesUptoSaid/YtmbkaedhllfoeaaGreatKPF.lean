/-
  Texts of the proof, put together.
-/
import Derived.Deep.RegionHeld3
import Derived.Test.YtmbkaedhllfoeaaGreatKPB
set_option maxRecDepth 100000
set_option maxHeartbeats 4000000
set_option linter.unusedVariables false
namespace Go.Rst
open Go.RowKit
def SB(ws:List World)(W:World):Prop:=∀x∈ws,Below x.heap.size x W
theorem SB.start(w:World):SB [w] w.drew:=fun x hx=>by
 obtain rfl:x=w:=by simpa using hx
 exact(Below.refl _ _).drew
theorem SB.step{ws:List World}{y z:World}(h:SB ws y)(hb:Below y.heap.size y z):SB ws z:=fun x hx=>(h x hx).trans (hb.mono (h x hx).size)
theorem SB.more{ws:List World}{z:World}(h:SB ws z):SB (z::ws) z:=fun x hx=>by
 rcases List.mem_cons.1 hx with rfl|hx
 ·exact Below.refl _ _
 ·exact h x hx
theorem SB.less{ws:List World}{z:World}(W:World)(h:SB (z::ws) W):SB ws W:=fun x hx=>h x (List.mem_cons_of_mem _ hx)
section
variable {a b c d e f g i j k l m:World} {ws:List World} {W:World}
theorem SB.b0(h:SB (a::ws) W):Below a.heap.size a W:=h _ (by simp)
theorem SB.b1(h:SB (a::b::ws) W):Below b.heap.size b W:=h _ (by simp)
theorem SB.b2(h:SB (a::b::c::ws) W):Below c.heap.size c W:=h _ (by simp)
theorem SB.b5(h:SB (a::b::c::d::e::f::ws) W):Below f.heap.size f W:=h _ (by simp)
theorem SB.b6(h:SB (a::b::c::d::e::f::g::ws) W):Below g.heap.size g W:=h _ (by simp)
end
theorem wpAnyH_more{P:Program}{md:Region.Mode}{ops:Array Oper}{Q:Exit→Act→World→Prop}{S S':World→Prop}(himp:∀W,S' W→S W):
  ∀(fuel:Nat) (listed:Array Bool) (a:Act) (w:World),wpAnyH P md ops Q S' fuel listed a w→wpAnyH P md ops Q S fuel listed a w
 |0,_,_,_,h=>h
 |fuel+1,_,_,_,h=>⟨h.1,fun i hi=>wpOp_mono (fun a' w' h'=>⟨himp w' h'.1,wpAnyH_more himp fuel _ a' w' h'.2⟩) (h.2 i hi)⟩
end Go.Rst
