/-
  Texts of the proof, put together.
-/
import Derived.RangeFuncBox
import Derived.Deep.QuietTactic
import Derived.BigQuiet
import Derived.Test.YtmbkaedhllfoeaaGreatKOJ
set_option maxRecDepth 100000
set_option maxHeartbeats 4000000
set_option linter.unusedVariables false
namespace Go.Pg
theorem layF_go{r:Rw}{rs:List Rw}{k:Nat}{laid:Bool}(h:k<rs.length):layF r (rs.drop k) laid=if (rs[k].1.toList==r.1.toList)=true then layF r (rs.drop (k+1)) laid else
  if laid=false∧sle rs[k].1 r.1=false then r::rs[k]::layF r (rs.drop (k+1)) true else rs[k]::layF r (rs.drop (k+1)) laid:=by
 rw[List.drop_eq_getElem_cons h,layF]
end Go.Pg
namespace Go.Proofs.YtmbkaedhllfoeaaGreat
open Go.RowKit Go.Rst Go.Pg Go.Crc
end Go.Proofs.YtmbkaedhllfoeaaGreat
namespace Go.Pg
theorem outL_go{k:ByteArray}{rs:List Rw}{j:Nat}(h:j<rs.length):outL k (rs.take (j+1))=if (rs[j].1.toList==k.toList)=true then outL k (rs.take j) else outL k (rs.take j)++ [rs[j]]:=by
 unfold outL;rw[List.take_succ_eq_append_getElem h,List.filter_append,List.filter_cons,List.filter_nil];cases rs[j].1.toList==k.toList <;>simp
end Go.Pg
namespace Go.Proofs.YtmbkaedhllfoeaaGreat
open Go.RowKit Go.Rst Go.Pg Go.Crc
end Go.Proofs.YtmbkaedhllfoeaaGreat
