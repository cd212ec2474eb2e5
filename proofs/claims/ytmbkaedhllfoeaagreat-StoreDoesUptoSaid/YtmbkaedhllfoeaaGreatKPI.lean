/-
  Texts of the proof, put together.
-/
import Derived.Test.YtmbkaedhllfoeaaGreatRows
import Derived.Deep.Slices
import Derived.WalkKit
import Derived.ProofKit
import Derived.OpenShut
import Derived.SizedLaws
import Derived.JoinedCond
import Derived.Test.YtmbkaedhllfoeaaGreatKPE
import Derived.Test.YtmbkaedhllfoeaaGreatKPH
set_option maxRecDepth 100000
set_option maxHeartbeats 4000000
set_option linter.unusedVariables false
namespace Go.Proofs.YtmbkaedhllfoeaaGreat.Upto
open Go.Rst
open Go.ChangeShapes Go.WideShapes Go.ChangeAt Go.RowKit
set_option linter.unusedVariables false
set_option maxRecDepth 10000
section
variable {H:Type}
theorem bulk_pos(d:DataW H):1≤Rows.uptoBulk d:=by
 unfold Rows.uptoBulk;split <;>omega
theorem bulk_length(xs:List (DataW H)):xs.length≤Rows.uptoBulkAll xs:=by
 induction xs with
 |nil=>simp
 |cons x xs ih=>
  have:=bulk_pos x;simp only[List.length_cons,Rows.uptoBulkAll];omega
end
section
variable {H:Type} {enc:TypeId×Value→H}
theorem open_bytes{W:World}{base:Nat}{spare:Nat→Bool}{held:Bool}{fuel:Nat}{v:Value}{x:DataW H×List MemPlace}(h:DataW.trod enc Tryz.prog W base spare held fuel 46 [v]=some x):
  ∃l:List UInt8,RB W v l∧l.length≤Rows.uptoBulk x.1:=by
 rcases open_ints Tryz.underlying46 Tryz.underlying5 (by kernel_rfl) h with ⟨hcs,hx⟩|⟨a,len,cap,zs,hcs,_,hl,hm,hz,hx,hcell,hwz⟩
 ·simp only[List.cons.injEq,and_true] at hcs
  subst hcs;exact⟨[],RB.nil_ W,by simp⟩
 ·simp only[List.cons.injEq,and_true] at hcs
  subst hcs;have hzl:len≤zs.length:=by rw[hz];split <;>omega
  obtain⟨l,hll,bZ⟩:∃l:List UInt8,len=l.length∧RB W (.slice (some a) l.length cap) l:=row_part hl hm hzl hcell hwz;refine⟨l,by rw[hll];exact bZ,?_⟩;subst hx;simp only[Rows.uptoBulk];have h1:=bulk_length (lits (H:=H) .u8 (zs.take len));simp only[lits,List.length_map,List.length_take] at h1;simp only[lits];omega
end
end Go.Proofs.YtmbkaedhllfoeaaGreat.Upto
