/-
  Texts of the proof, put together.
-/
import Derived.Deep.QuietTactic
import Derived.BigQuiet
import Derived.Test.YtmbkaedhllfoeaaGreatKOCA
import Derived.Test.YtmbkaedhllfoeaaGreatKOWr
set_option maxRecDepth 100000
set_option maxHeartbeats 4000000
set_option linter.unusedVariables false
namespace Go.Proofs.YtmbkaedhllfoeaaGreat
open Go.RowKit Go.Rst Go.Dv
theorem len_any{D:Nat→Prop}{w:World}{v:Value}{s:Sim}(h:Dev D w v s):
  Calls Tryz.prog 38 #[v] w fun e w'=>e= .returned (.int .i64 (s.firm.length:Int))∧w=w':=by
 obtain⟨y,rfl,hr,_,_⟩:=h;have c0:=hr.c0;clear hr;go_enter Tryz.func38,Tryz.ntmps38;go_wp2;go_ret;exact⟨rfl,rfl⟩
theorem has_any{D:Nat→Prop}{w:World}{v:Value}{s:Sim}(i:Int)(h:Dev D w v s):
  Calls Tryz.prog 67 #[v,.int .i64 i] w fun e w'=>e= .returned (.bool (s.has i))∧w=w':=by
 have H:=qH h;clear h;by_cases h0:0≤i
 ·have e:s.has i=decide (i<(s.firm.length:Int)):=by simp[Sim.has,h0]
  rw[e];clear e;have hd:decide (0≤i)=true:=by simpa using h0
  go_enter Tryz.func67,Tryz.ntmps67;go_wp2_with fail
  go_at_call 38;refine(len_any H.out).mono ?_;rintro e w'⟨rfl,rfl⟩;go_wp2;go_ret;exact⟨rfl,rfl⟩
 ·have e:s.has i=false:=by simp[Sim.has,h0]
  rw[e];clear e;have hd:decide (0≤i)=false:=by simpa using h0
  go_enter Tryz.func67,Tryz.ntmps67;go_wp2_with fail
  go_wp2;go_ret;exact⟨rfl,rfl⟩
theorem passes_any{D:Nat→Prop}{w:World}{v:Value}{s:Sim}(h:Dev D w v s):
  Calls Tryz.prog 73 #[v] w fun e w'=>e= .returned (.bool s.goes)∧Fr D w w'∧Dev D w' v (if s.goes then s.burnt else s):=by
 have H:=qH h;obtain⟨y,rfl,hr,hok,hf⟩:=h;have c3:=hr.c3;have c4:=hr.c4;have f4:=hr.bd.frozen 4;have HR:=qH hr;clear hr
 cases hu:s.fuse with
 |none=>
  have e:s.goes=true:=by simp[Sim.goes,hu]
  have e2:s.burnt=s:=by cases s;simp[Sim.burnt] at *;exact hu.symm▸rfl
  rw[e,e2];rw[hu] at c3;have DO:w.cell? ⟨y.g,3,none⟩=some (.bool false):=c3;clear e e2 c3 hf hu hok;go_enter Tryz.func73,Tryz.ntmps73;go_wp2;go_ret;exact⟨rfl,Fr.refl _ _,H.out⟩
 |some k=>
  rw[hu] at c3;have DO:w.cell? ⟨y.g,3,none⟩=some (.bool true):=c3;have ce:=hf k hu;rw[ce] at c4;have HF:=qH ce;have HU:=qH hu;have HO:=qH hok;clear c3 hf ce hu hok
  cases k with
  |zero=>
   have e:s.goes=false:=by simp[Sim.goes,HU.out]
   rw[e];have I3:w.cell? ⟨y.g,4,none⟩=some (.int .i64 0):=c4;clear e c4;go_enter Tryz.func73,Tryz.ntmps73;go_wp2;go_ret;exact⟨rfl,Fr.refl _ _,H.out⟩
  |succ k=>
   have e:s.goes=true:=by simp[Sim.goes,HU.out]
   rw[e];have I3:w.cell? ⟨y.g,4,none⟩=some (.int .i64 ((k:Int)+1)):=by rw[c4];rfl
   have hk:(0:Int)≤(k:Int):=by omega
   have hk1:(k:Int)≤1000:=by have:=HO.out.u _ HU.out;omega
   have hz:((k:Int)+1==0)=false:=by simp;omega
   clear c4;go_enter Tryz.func73,Tryz.ntmps73;go_wp2;go_ret;refine⟨rfl,(Fr.refl _ _).setCell (.inl HR.out.dg) _,{y with lf:=(k:Int)},rfl,?_,HO.out.burnt,?_⟩
   ·have:=HR.out.setLeft (k:Int)
    try simp only[if_true]
    have e1:s.burnt.fuse.isSome=s.fuse.isSome:=by simp[Sim.burnt]
    rw[e1];exact this
   ·intro m hm
    simp[Sim.burnt,HU.out] at hm;show(k:Int)=m;omega
theorem spoil_any{D:Nat→Prop}{w:World}{v:Value}{s:Sim}(i a:Int)(b:UInt8)(h:Dev D w v s):
  Calls Tryz.prog 28 #[v,.int .i64 i,.int .i64 a,bv b] w fun e w'=>e= .returned (.bool (s.can i a))∧Fr D w w'∧Dev D w' v (s.spoil i a b):=by
 have H:=qH h;obtain⟨y,rfl,hr,hok,hf⟩:=h;have c0:=hr.c0;have HR:=qH hr;have HO:=qH hok;have uh:=qH hf;clear hf;by_cases hc:s.can i a=true
 ·have hc2:=hc
  simp only[Sim.can,Bool.and_eq_true,decide_eq_true_eq,Sim.has_iff] at hc2;obtain⟨⟨⟨i0,i1⟩,a0⟩,a1⟩:=hc2;have hhas:s.has i=true:=Sim.has_iff.2 ⟨i0,i1⟩;obtain⟨k,rfl⟩:∃k:Nat,i=(k:Int):=⟨i.toNat,by omega⟩
  obtain⟨j,rfl⟩:∃j:Nat,a=(j:Int):=⟨a.toNat,by omega⟩
  have hk:k<s.firm.length:=by omega
  have hj:j<64:=by omega
  have mw:=hr.firmThere hok.f hk j hj;have mi:=mw.2;obtain⟨x,hx⟩:=Option.isSome_iff_exists.1 mw.1;have e:s.spoil k j b={s with firm:=s.firm.set k ((s.firm.getD k []).set j b)}:=by simp[Sim.spoil,hc]
  have HE:=qH e;rw[hc];have HC:=qH hc;have HH:=qH hhas;clear hr hok e hc mw hhas;have ja:decide ((j:Int)<0)=false:=by simp
  have jb:decide (64≤(j:Int))=false:=by simp;omega
  unfold bv;go_enter Tryz.func28,Tryz.ntmps28;go_wp2_with fail
  go_at_call 67;refine(has_any _ H.out).mono ?_;rintro e w'⟨rfl,rfl⟩;rw[HH.out];go_wp2;go_ret;refine⟨rfl,(Fr.refl _ _).setCell (.inl HR.out.dF) _,?_⟩;rw[HE.out];refine⟨y,rfl,?_,HE.out▸HO.out.spoil _ _ _,uh.out⟩;have:=HR.out.setByte HO.out.f hk hj b;show Raw D _ y (s.firm.set k ((s.firm.getD k []).set j b)) s.loose (newL (s.firm.set k ((s.firm.getD k []).set j b)).length s.loose) s.fuse.isSome s.nw s.nf;rw[List.length_set];exact this
 ·have hc':s.can i a=false:=by simpa using hc
  have HE:=qH (show s.spoil i a b=s by simp[Sim.spoil,hc']);rw[hc'];clear hr hok c0;have hh:s.has i=false∨(s.has i=true∧a<0)∨(s.has i=true∧64≤a):=by
   cases hq:s.has i with
   |false=>exact .inl rfl
   |true=>
    by_cases h1:a<0
    ·exact .inr (.inl ⟨rfl,h1⟩)
    ·by_cases h2:64≤a
     ·exact .inr (.inr ⟨rfl,h2⟩)
     ·exact absurd (by simp[Sim.can,hq];omega:s.can i a=true) hc
  clear hc hc';unfold bv;rcases hh with hh|⟨hh,ha⟩|⟨hh,ha⟩
  all_goals
   have HH:=qH hh;clear hh;go_enter Tryz.func28,Tryz.ntmps28;go_wp2_with fail
   go_at_call 67;refine(has_any _ H.out).mono ?_;rintro e w'⟨rfl,rfl⟩;rw[HH.out];go_wp2
   all_goals
    go_ret;exact⟨rfl,Fr.refl _ _,by rw[HE.out];exact H.out⟩
end Go.Proofs.YtmbkaedhllfoeaaGreat
