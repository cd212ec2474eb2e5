/-
  Texts of the proof, put together.
-/
import Derived.Deep.QuietTactic
import Derived.BigQuiet
import Derived.Test.YtmbkaedhllfoeaaGreatKPCA
import Derived.Test.YtmbkaedhllfoeaaGreatKPWr
set_option maxRecDepth 100000
set_option maxHeartbeats 4000000
set_option linter.unusedVariables false
namespace Go.Proofs.YtmbkaedhllfoeaaGreat
open Go.RowKit Go.Rst Go.Dv
theorem len_any{D:Nat→Prop}{w:World}{v:Value}{s:Sim}(h:Dev D w v s):
  Calls Tryz.prog 38 #[v] w fun e w'=>e= .returned (.int .i64 (s.firm.length:Int))∧w=w':=by
 obtain⟨y,rfl,hr,_,_⟩:=h;have c0:=hr.c0;clear hr;go_enter Tryz.func38,Tryz.ntmps38;go_wp2;go_ret;exact⟨rfl,rfl⟩
theorem has_any{D:Nat→Prop}{w:World}{v:Value}{s:Sim}(i:Int)(h:Dev D w v s):
  Calls Tryz.prog 67 #[v,.int .i64 i] w fun e w'=>e= .returned (.bool (s.has i))∧w=w':=by
 have H:=qH h;clear h;by_cases h0:0≤i
 ·have e:s.has i=decide (i<(s.firm.length:Int)):=by simp[Sim.has,h0]
  rw[e];clear e;have hd:decide (0≤i)=true:=by simpa using h0
  go_enter Tryz.func67,Tryz.ntmps67;go_wp2_with fail
  go_at_call 38;refine(len_any H.out).mono ?_;rintro e w'⟨rfl,rfl⟩;go_wp2;go_ret;exact⟨rfl,rfl⟩
 ·have e:s.has i=false:=by simp[Sim.has,h0]
  rw[e];clear e;have hd:decide (0≤i)=false:=by simpa using h0
  go_enter Tryz.func67,Tryz.ntmps67;go_wp2_with fail
  go_wp2;go_ret;exact⟨rfl,rfl⟩
theorem passes_any{D:Nat→Prop}{w:World}{v:Value}{s:Sim}(h:Dev D w v s):
  Calls Tryz.prog 73 #[v] w fun e w'=>e= .returned (.bool s.goes)∧Fr D w w'∧Dev D w' v (if s.goes then s.burnt else s):=by
 have H:=qH h;obtain⟨y,rfl,hr,hok,hf⟩:=h;have c3:=hr.c3;have c4:=hr.c4;have f4:=hr.bd.frozen 4;have HR:=qH hr;clear hr
 cases hu:s.fuse with
 |none=>
  have e:s.goes=true:=by simp[Sim.goes,hu]
  have e2:s.burnt=s:=by cases s;simp[Sim.burnt] at *;exact hu.symm▸rfl
  rw[e,e2];rw[hu] at c3;have wJ:w.cell? ⟨y.g,3,none⟩=some (.bool false):=c3;clear e e2 c3 hf hu hok;go_enter Tryz.func73,Tryz.ntmps73;go_wp2;go_ret;exact⟨rfl,Fr.refl _ _,H.out⟩
 |some k=>
  rw[hu] at c3;have wJ:w.cell? ⟨y.g,3,none⟩=some (.bool true):=c3;have bV:=hf k hu;rw[bV] at c4;have HF:=qH bV;have HU:=qH hu;have HO:=qH hok;clear c3 hf bV hu hok
  cases k with
  |zero=>
   have e:s.goes=false:=by simp[Sim.goes,HU.out]
   rw[e];have BI:w.cell? ⟨y.g,4,none⟩=some (.int .i64 0):=c4;clear e c4;go_enter Tryz.func73,Tryz.ntmps73;go_wp2;go_ret;exact⟨rfl,Fr.refl _ _,H.out⟩
  |succ k=>
   have e:s.goes=true:=by simp[Sim.goes,HU.out]
   rw[e];have BI:w.cell? ⟨y.g,4,none⟩=some (.int .i64 ((k:Int)+1)):=by rw[c4];rfl
   have hk:(0:Int)≤(k:Int):=by omega
   have hk1:(k:Int)≤1000:=by have:=HO.out.u _ HU.out;omega
   have hz:((k:Int)+1==0)=false:=by simp;omega
   clear c4;go_enter Tryz.func73,Tryz.ntmps73;go_wp2;go_ret;refine⟨rfl,(Fr.refl _ _).setCell (.inl HR.out.dg) _,{y with lf:=(k:Int)},rfl,?_,HO.out.burnt,?_⟩
   ·have:=HR.out.setLeft (k:Int)
    try simp only[if_true]
    have e1:s.burnt.fuse.isSome=s.fuse.isSome:=by simp[Sim.burnt]
    rw[e1];exact this
   ·intro m hm
    simp[Sim.burnt,HU.out] at hm;show(k:Int)=m;omega
theorem fuse_any{D:Nat→Prop}{w:World}{v:Value}{s:Sim}(n:Int)(hn:n≤1000)(h:Dev D w v s):
  Calls Tryz.prog 17 #[v,.int .i64 n] w fun e w'=>e= .returned (.tuple #[])∧Fr D w w'∧Dev D w' v (s.setFuse n):=by
 have H:=qH h;obtain⟨y,rfl,hr,hok,hf⟩:=h;have c3:=hr.c3;have c4:=hr.c4;have f4:=hr.bd.frozen 4;have f3:=hr.bd.frozen 3;have HR:=qH hr;have HO:=qH hok;have fin:s.goes=true→Dev D ((w.setCell ⟨y.g,3,none⟩ (.bool (decide (0≤n)))).setCell ⟨y.g,4,none⟩ (.int .i64 n)) (.pointer (some ⟨y.g,0,none⟩)) (s.setFuse n):=by
  intro hg;refine⟨{y with lf:=n},rfl,?_,hok.setFuse n hn,?_⟩
  ·have:=(hr.setFlag (decide (0≤n))).setLeft n
   have e1:(s.setFuse n).fuse.isSome=decide (0≤n):=by
    simp only[Sim.setFuse,hg,if_true];by_cases h0:0≤n <;>simp[h0]
   have e2:(s.setFuse n).firm=s.firm:=by simp[Sim.setFuse,hg]
   have e3:(s.setFuse n).loose=s.loose:=by simp[Sim.setFuse,hg]
   have e4:(s.setFuse n).nw=s.nw:=by simp[Sim.setFuse,hg]
   have e5:(s.setFuse n).nf=s.nf:=by simp[Sim.setFuse,hg]
   rw[e1,e2,e3,e4,e5];exact this
  ·intro k hk
   simp only[Sim.setFuse,hg,if_true] at hk;by_cases h0:0≤n
   ·rw[if_pos h0] at hk;injection hk with hk;show n=_;omega
   ·rw[if_neg h0] at hk;cases hk
 have HF:=qH fin;clear fin;have hb:(-9223372036854775808:Int)≤ -9223372036854775808:=Int.le_refl _;clear hb;have fr:Fr D w ((w.setCell ⟨y.g,3,none⟩ (.bool (decide (0≤n)))).setCell ⟨y.g,4,none⟩ (.int .i64 n)):=((Fr.refl _ _).setCell (.inl hr.dg) _).setCell (.inl hr.dg) _;have j5:=qH fr;clear hr hok fr
 cases hu:s.fuse with
 |none=>
  rw[hu] at c3;have wJ:w.cell? ⟨y.g,3,none⟩=some (.bool false):=c3;have HG:=qH (show s.goes=true by simp[Sim.goes,hu]);clear c3 hf hu;go_enter Tryz.func17,Tryz.ntmps17;go_wp2
  go_end0
  exact⟨rfl,j5.out,HF.out HG.out⟩
 |some k=>
  rw[hu] at c3;have wJ:w.cell? ⟨y.g,3,none⟩=some (.bool true):=c3;have bV:=hf k hu;rw[bV] at c4;have HU:=qH hu;clear c3 hf bV hu
  cases k with
  |zero=>
   have BI:w.cell? ⟨y.g,4,none⟩=some (.int .i64 0):=c4;clear c4;have HS:=qH (show s.setFuse n=s by simp[Sim.setFuse,Sim.goes,HU.out]);go_enter Tryz.func17,Tryz.ntmps17;go_wp2;refine bodyPost_ret (v:= .tuple #[]) (results_none rfl _ _ _) rfl ?_;exact⟨rfl,Fr.refl _ _,by rw[HS.out];exact H.out⟩
  |succ k=>
   have HG:=qH (show s.goes=true by simp[Sim.goes,HU.out]);have BI:w.cell? ⟨y.g,4,none⟩=some (.int .i64 ((k:Int)+1)):=by rw[c4];rfl
   have hz:((k:Int)+1==0)=false:=by simp;omega
   clear c4;go_enter Tryz.func17,Tryz.ntmps17;go_wp2
   go_end0
   exact⟨rfl,j5.out,HF.out HG.out⟩
end Go.Proofs.YtmbkaedhllfoeaaGreat
