/-
  Texts of the proof, put together.
-/
import Derived.Handy
import Derived.Test.YtmbkaedhllfoeaaGreatKPCB
import Derived.Test.YtmbkaedhllfoeaaGreatKPWr
set_option maxRecDepth 100000
set_option maxHeartbeats 4000000
set_option linter.unusedVariables false
namespace Go.Str
def layJ(n:Int):Int:=if n<64 then 0 else n.tdiv 4
def layA(n:Int):Int:=if n<64 then 0 else (n-2-n.tdiv 4).tdiv 8
def jN(n:Nat):Nat:=if n<64 then 0 else n/4
def aN(n:Nat):Nat:=if n<64 then 0 else (n-2-n/4)/8
theorem layJ_nat(n:Nat):layJ (n:Int)=(jN n:Int):=by
 unfold layJ jN;by_cases h:n<64
 ·rw[if_pos h,if_pos (by omega)];rfl
 ·rw[if_neg h,if_neg (by omega),Int.tdiv_eq_ediv_of_nonneg (by omega)];omega
theorem layA_nat(n:Nat):layA (n:Int)=(aN n:Int):=by
 unfold layA aN;by_cases h:n<64
 ·rw[if_pos h,if_pos (by omega)];rfl
 ·rw[if_neg h,if_neg (by omega),Int.tdiv_eq_ediv_of_nonneg (a:=(n:Int)) (by omega),Int.tdiv_eq_ediv_of_nonneg (by omega)];omega
theorem jN_le(n:Nat):jN n≤n/4:=by unfold jN;split <;>omega
theorem aN_le(n:Nat):8*aN n+jN n+2≤n∨(aN n=0∧jN n=0):=by unfold jN aN;split <;>omega
theorem aN_pos{n:Nat}(h:64≤n):5≤aN n∧16≤jN n:=by unfold jN aN;rw[if_neg (by omega),if_neg (by omega)];omega
def firstN(n area:Nat):Nat:=2+jN n+area*aN n*4
theorem firstN_le{n area k:Nat}(h:64≤n)(ha:area≤1)(hk:k≤aN n):firstN n area+k*4≤n:=by
 have h1:=aN_le n;have h2:=aN_pos h;unfold firstN;rcases(show area=0∨area=1 by omega) with rfl|rfl <;>omega
end Go.Str
namespace Go.Proofs.YtmbkaedhllfoeaaGreat
open Go.RowKit Go.Rst Go.Dv Go.Str
abbrev dv(v:Value):Value:= .iface 25 v
theorem layout_any(n:Int)(h0: -9223372036854775808≤n)(h1:n≤9223372036854775807)(w:World):
  Calls Tryz.prog 29 #[.int .i64 n] w fun e w'=>e= .returned (.tuple #[.int .i64 (layJ n),.int .i64 (layA n)])∧w=w':=by
 by_cases h:n<64
 ·have e1:layJ n=0:=by unfold layJ;rw[if_pos h]
  have e2:layA n=0:=by unfold layA;rw[if_pos h]
  rw[e1,e2];clear e1 e2;go_enter Tryz.func29,Tryz.ntmps29;go_wp2
  go_ret2
  exact⟨rfl,rfl⟩
 ·have e1:layJ n=n.tdiv 4:=by unfold layJ;rw[if_neg h]
  have e2:layA n=(n-2-n.tdiv 4).tdiv 8:=by unfold layA;rw[if_neg h]
  obtain⟨J,hJ⟩:∃J,J=n.tdiv 4:=⟨_,rfl⟩
  have hj:0≤J∧4*J≤n:=by rw[hJ,Int.tdiv_eq_ediv_of_nonneg (by omega)];omega
  obtain⟨K,hK⟩:∃K,K=(n-2-J).tdiv 8:=⟨_,rfl⟩
  have hk:0≤K∧K≤n:=by rw[hK,Int.tdiv_eq_ediv_of_nonneg (by omega)];omega
  rw[←hJ] at e1 e2;rw[←hK] at e2;rw[e1,e2];have hw1:IntKind.i64.wrap J=J:=by rw[IntKind.wrap_i64];omega
  have hw2:IntKind.i64.wrap K=K:=by rw[IntKind.wrap_i64];omega
  have hw3:IntKind.i64.wrap (n-2)=n-2:=by rw[IntKind.wrap_i64];omega
  have hw4:IntKind.i64.wrap (n-2-J)=n-2-J:=by rw[IntKind.wrap_i64];omega
  have Hk:=hJ.symm;have hK':=hK.symm;clear hJ hK e1 e2;go_enter Tryz.func29,Tryz.ntmps29;go_wp2
  go_ret2
  exact⟨rfl,rfl⟩
theorem first_any{D:Nat→Prop}{w:World}{v:Value}{s:Sim}(area:Nat)(ha:area≤1)(h:Dev D w v s):
  Calls Tryz.prog 75 #[dv v,.int .i64 (area:Int)] w fun e w'=>e= .returned (.int .i64 (firstN s.firm.length area:Int))∧w=w':=by
 have HN:=h.ok.n;have H:=qH h;obtain⟨y,rfl,_⟩:=h;obtain⟨n,hn⟩:∃n,n=s.firm.length:=⟨_,rfl⟩
 rw[←hn] at HN⊢;have hlen:=len_any H.out;rw[←hn] at hlen;have HL:=qH hlen;have al:=layout_any (n:Int) (by omega) (by omega) w;rw[layJ_nat,layA_nat] at al;have HY:=qH al;obtain⟨J,hJ⟩:∃J,J=jN n:=⟨_,rfl⟩
 obtain⟨A,hA⟩:∃A,A=aN n:=⟨_,rfl⟩
 have hle:=aN_le n;have hF:firstN n area=2+J+area*A*4:=by rw[hJ,hA];rfl
 rw[←hJ,←hA] at hle;obtain⟨P,hP⟩:∃P,P=area*A:=⟨_,rfl⟩
 have Dl:P≤A:=by rw[hP];exact Nat.le_trans (Nat.mul_le_mul_right A ha) (by omega)
 rw[hF,←hP];have pj:(area:Int)*(A:Int)=(P:Int):=by rw[hP];simp
 rw[←hJ,←hA] at al;have HY:=qH al;have eB:((2+J+P*4:Nat):Int)=2+(J:Int)+(P:Int)*4:=by omega
 rw[eB];clear hlen al hF hJ hA hP hn eB;go_enter Tryz.func75,Tryz.ntmps75;go_wp2_with (first|(go_at_call 38;refine HL.out.mono ?_;rintro e w1 ⟨rfl,rfl⟩)|(go_at_call 29;refine HY.out.mono ?_;rintro e w1 ⟨rfl,rfl⟩))
 go_ret;exact⟨rfl,rfl⟩
end Go.Proofs.YtmbkaedhllfoeaaGreat
