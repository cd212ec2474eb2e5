/-
  Texts of the proof, put together.
-/
import Derived.Laws.ComplexArith
import Derived.KernelRfl
set_option maxRecDepth 100000
set_option maxHeartbeats 4000000
set_option linter.unusedVariables false
namespace Go.Dv
def fadd(x y:Nat):Nat:=(floatBits .add .f64 x y).getD 0
abbrev one64:Nat:=4607182418800017408
abbrev top64:Nat:=9218868437227405312
theorem top_eq:FloatKind.f64.format.infRung=top64:=by decide +kernel
theorem read_ok{x:Nat}(h:x≤top64):(∃m i,FloatKind.f64.format.read x= .number false m i)∨FloatKind.f64.format.read x= .infinity false:=by
 have hs:FloatKind.f64.format.signWeight=9223372036854775808:=by decide +kernel
 have e1:x/FloatKind.f64.format.signWeight=0:=by rw[hs];exact Nat.div_eq_of_lt (by unfold top64 at h;omega)
 have e2:x%FloatKind.f64.format.signWeight=x:=by rw[hs];exact Nat.mod_eq_of_lt (by unfold top64 at h;omega)
 unfold Ieee.Format.read;simp only[e1,e2,top_eq];split
 ·exact .inl ⟨_,_,rfl⟩
 ·split
  ·exact .inl ⟨_,_,rfl⟩
  ·rw[if_pos (by omega)];exact .inr rfl
theorem write_ok(m:Nat)(i:Int):FloatKind.f64.format.write (.number false m i)≤top64:=by
 unfold Ieee.Format.write Ieee.Format.nearest Ieee.Format.word;simp only[top_eq,Bool.false_eq_true,if_false];by_cases h:m=0
 ·rw[if_pos h];exact Nat.zero_le _
 ·rw[if_neg h];exact Nat.min_le_right _ _
theorem add_ok{x y:Nat}(hx:x≤top64)(hy:y≤top64):floatBits .add .f64 x y=some (fadd x y)∧fadd x y≤top64:=by
 have key:∃r,floatBits .add .f64 x y=some r∧r≤top64:=by
  unfold floatBits Ieee.Format.add;have sL:FloatKind.f64.format.write (.infinity false)≤top64:=by
   unfold Ieee.Format.write Ieee.Format.word;rw[top_eq];exact Nat.le_refl _
  rcases read_ok hx with ⟨m,i,e1⟩|e1 <;>rcases read_ok hy with ⟨n,j,e2⟩|e2
  ·refine⟨_,by simp only[e1,e2,Ieee.Datum.sum,Option.map_some];rfl,?_⟩
   have ht:∀u v:Nat,decide (Ieee.signed false m u+Ieee.signed false n v<0)=false:=by
    intro u v;have h1:Ieee.signed false m u=((m<<<u:Nat):Int):=rfl;have h2:Ieee.signed false n v=((n<<<v:Nat):Int):=rfl;rw[h1,h2];have h3:(0:Int)≤((m<<<u:Nat):Int):=Int.natCast_nonneg _;have h4:(0:Int)≤((n<<<v:Nat):Int):=Int.natCast_nonneg _;exact decide_eq_false (by omega)
   simp only[ht,Bool.and_self,ite_self];exact write_ok _ _
  ·exact⟨_,by simp only[e1,e2,Ieee.Datum.sum,Option.map_some],sL⟩
  ·exact⟨_,by simp only[e1,e2,Ieee.Datum.sum,Option.map_some],sL⟩
  ·exact⟨_,by simp only[e1,e2,Ieee.Datum.sum,if_pos,Option.map_some],sL⟩
 obtain⟨r,h1,h2⟩:=key;have e:fadd x y=r:=by unfold fadd;rw[h1];rfl
 rw[e];exact⟨h1,h2⟩
def fb(n:Nat):Nat:=floatOfInt .f64 (n:Int)
end Go.Dv
namespace Go.Dv
structure Sim where
 firm:List (List UInt8)
 loose:List (Nat×List UInt8)
 fuse:Option Nat
 nw:Nat
 nf:Nat
abbrev Wr:=Nat×List UInt8
def pad(b:List UInt8):List UInt8:=b++List.replicate (64-b.length) 0
theorem pad_length{b:List UInt8}(h:b.length≤64):(pad b).length=64:=by simp[pad];omega
def wat(L:List Wr)(k:Nat):Wr:=L.getD k (0,[])
theorem wat_in{L:List Wr}{k:Nat}(h:k<L.length):wat L k=L[k]:=by simp[wat,h]
theorem wat_mem{L:List Wr}{k:Nat}(h:k<L.length):wat L k∈L:=by rw[wat_in h];exact List.getElem_mem h
theorem wat_append_left{L:List Wr}{x:Wr}{k:Nat}(h:k<L.length):wat (L++ [x]) k=wat L k:=by
 simp[wat,List.getElem?_append_left h]
theorem wat_append_last{L:List Wr}{x:Wr}:wat (L++ [x]) L.length=x:=by simp[wat]
def upTo(L:List Wr)(i:Nat):Nat→Nat
 |0=>0
 |k+1=>if (wat L k).1=i then k+1 else upTo L i k
theorem upTo_le(L:List Wr)(i:Nat):∀k,upTo L i k≤k
 |0=>Nat.le_refl _
 |k+1=>by unfold upTo;split;exact Nat.le_refl _;exact Nat.le_trans (upTo_le L i k) (by omega)
theorem upTo_at(L:List Wr)(i:Nat):∀k,0<upTo L i k→(wat L (upTo L i k-1)).1=i
 |0,h=>by cases h
 |k+1,h=>by
  unfold upTo at h⊢;split at h
  ·rename_i e;rw[if_pos e];simpa using e
  ·rename_i e;rw[if_neg e];exact upTo_at L i k h
theorem upTo_append(L:List Wr)(x:Wr)(i:Nat):∀k,k≤L.length→upTo (L++ [x]) i k=upTo L i k
 |0,_=>rfl
 |k+1,h=>by
  unfold upTo;rw[wat_append_left (by omega),upTo_append L x i k (by omega)]
theorem upTo_last(L:List Wr)(x:Wr)(i:Nat):upTo (L++ [x]) i (L++ [x]).length=if x.1=i then L.length+1 else upTo L i L.length:=by
 rw[List.length_append];show upTo (L++ [x]) i (L.length+1)=_
 conv=>lhs;unfold upTo
 rw[wat_append_last,upTo_append L x i _ (Nat.le_refl _)]
def newL(n:Nat)(L:List Wr):List Nat:=(List.range n).map fun i=>upTo L i L.length
theorem newL_length(n:Nat)(L:List Wr):(newL n L).length=n:=by simp[newL]
theorem newL_get{n i:Nat}{L:List Wr}(h:i<n):(newL n L)[i]? =some (upTo L i L.length):=by simp[newL,h]
theorem newL_nil(n:Nat):newL n []=List.replicate n 0:=by
 apply List.ext_getElem
 ·simp[newL]
 ·intro i h1 h2;simp[newL,upTo]
theorem newL_set(n:Nat)(L:List Wr)(x:Wr):(newL n L).set x.1 (L.length+1)=newL n (L++ [x]):=by
 apply List.ext_getElem?;intro i;by_cases hi:i<n
 ·rw[newL_get hi,upTo_last,List.getElem?_set]
  by_cases e:x.1=i
  ·rw[if_pos e,if_pos (by rw[newL_length,e];exact hi),if_pos e]
  ·rw[if_neg e,newL_get hi,if_neg e]
 ·rw[List.getElem?_eq_none (by simp[newL];omega),List.getElem?_eq_none (by simp[newL];omega)]
def zeroed(N:List Nat)(L:List Wr):Nat→List Nat
 |0=>N
 |k+1=>(zeroed N L k).set (wat L k).1 0
theorem zeroed_length(N:List Nat)(L:List Wr):∀k,(zeroed N L k).length=N.length
 |0=>rfl
 |k+1=>by rw[zeroed,List.length_set,zeroed_length N L k]
theorem zeroed_or(N:List Nat)(L:List Wr)(i:Nat)(hi:i<N.length):∀k,(zeroed N L k)[i]? =some 0∨((zeroed N L k)[i]? =N[i]? ∧∀j,j<k→(wat L j).1≠i)
 |0=> .inr ⟨rfl,fun j hj=>by cases hj⟩
 |k+1=>by
  rw[zeroed];by_cases e:(wat L k).1=i
  ·left;rw[List.getElem?_set,if_pos e,if_pos (by rw[zeroed_length,e];exact hi)]
  ·rw[List.getElem?_set,if_neg e]
   rcases zeroed_or N L i hi k with h|⟨h1,h2⟩
   ·exact .inl h
   ·exact .inr ⟨h1,fun j hj=>by
     by_cases hjk:j=k
     ·subst hjk;exact e
     ·exact h2 j (by omega)⟩
theorem zeroed_all(n:Nat)(L:List Wr):zeroed (newL n L) L L.length=newL n []:=by
 rw[newL_nil];apply List.ext_getElem?;intro i;by_cases hi:i<n
 ·rw[List.getElem?_replicate,if_pos hi]
  rcases zeroed_or (newL n L) L i (by rw[newL_length];exact hi) L.length with h|⟨h1,h2⟩
  ·exact h
  ·rw[h1,newL_get hi]
   by_cases h0:upTo L i L.length=0
   ·rw[h0]
   ·have:=upTo_at L i L.length (by omega)
    exact absurd this (h2 _ (by have:=upTo_le L i L.length;omega))
 ·rw[List.getElem?_eq_none (by rw[zeroed_length,newL_length];omega),List.getElem?_eq_none (by simp;omega)]
def kept(F:List (List UInt8))(L:List Wr)(K:List Bool):Nat→List (List UInt8)
 |0=>F
 |k+1=>if K.getD k false=true then (kept F L K k).set (wat L k).1 (wat L k).2 else kept F L K k
theorem kept_length(F:List (List UInt8))(L:List Wr)(K:List Bool):∀k,(kept F L K k).length=F.length
 |0=>rfl
 |k+1=>by
  rw[kept];split
  ·rw[List.length_set,kept_length F L K k]
  ·exact kept_length F L K k
theorem kept_all{F:List (List UInt8)}{L:List Wr}(K:List Bool)(hF:∀x∈F,x.length=64)(hL:∀x∈L,x.2.length=64):∀k,k≤L.length→∀x∈kept F L K k,x.length=64
 |0,_=>hF
 |k+1,h=>by
  rw[kept];split
  ·intro x hx
   rcases List.mem_or_eq_of_mem_set hx with hx|rfl
   ·exact kept_all K hF hL k (by omega) x hx
   ·exact hL _ (wat_mem (by omega))
  ·exact kept_all K hF hL k (by omega)
def Sim.new(n:Nat):Sim:=⟨List.replicate n (List.replicate 64 0),[],none,0,0⟩
def Sim.has(s:Sim)(i:Int):Bool:=decide (0≤i) && decide (i<s.firm.length)
theorem Sim.has_iff{s:Sim}{i:Int}:s.has i=true↔0≤i∧i<s.firm.length:=by simp[Sim.has]
def Sim.goes(s:Sim):Bool:=s.fuse !=some 0
def Sim.burnt(s:Sim):Sim:={s with fuse:=s.fuse.map (· - 1)}
def Sim.read(s:Sim)(i:Nat):List UInt8:=if upTo s.loose i s.loose.length=0 then s.firm.getD i [] else (wat s.loose (upTo s.loose i s.loose.length-1)).2
def Sim.put(s:Sim)(i:Nat)(b:List UInt8):Sim:={s.burnt with loose:=s.loose++ [(i,pad b)],nw:=fadd s.nw one64,nf:=fadd s.nf 0}
def Sim.write(s:Sim)(i:Int)(b:List UInt8):Sim:=if s.has i && decide (b.length≤64) && s.goes then s.put i.toNat b else s
def Sim.wrote(s:Sim)(i:Int)(b:List UInt8):Int:=if s.has i then (if 64<b.length then 3 else 0) else 20
def Sim.land(s:Sim)(K:List Bool):Sim:={s with firm:=kept s.firm s.loose K s.loose.length,loose:= []}
def Sim.flush(s:Sim):Sim:=if s.goes then {s.burnt.land (List.replicate s.loose.length true) with nw:=fadd s.nw 0,nf:=fadd s.nf one64} else s
def Sim.crash(s:Sim)(K:List Bool):Sim:={s.land K with fuse:=none}
def Sim.setFuse(s:Sim)(n:Int):Sim:=if s.goes then {s with fuse:=if 0≤n then some n.toNat else none} else s
structure OK (s:Sim):Prop where
 n:s.firm.length≤4096
 f:∀x∈s.firm,x.length=64
 l:∀x∈s.loose,x.1<s.firm.length∧x.2.length=64
 w:s.loose.length≤100000
 u:∀k,s.fuse=some k→k≤1000
 t:s.nw≤top64∧s.nf≤top64
theorem OK.new{n:Nat}(h:n≤4096):OK (Sim.new n):=
 ⟨by simp[Sim.new,h],fun x hx=>by have:=List.eq_of_mem_replicate hx;subst this;simp,fun x hx=>by simp[Sim.new] at hx,by simp[Sim.new],fun k hk=>by simp[Sim.new] at hk,by simp[Sim.new]⟩
theorem OK.wat_{s:Sim}(h:OK s){k:Nat}(hk:k<s.loose.length):(wat s.loose k).1<s.firm.length∧(wat s.loose k).2.length=64:=h.l _ (wat_mem hk)
theorem OK.firm_{s:Sim}(h:OK s){i:Nat}(hi:i<s.firm.length):(s.firm.getD i []).length=64:=by
 rw[List.getD_eq_getElem?_getD,List.getElem?_eq_getElem hi];exact h.f _ (List.getElem_mem hi)
theorem OK.read{s:Sim}(h:OK s){i:Nat}(hi:i<s.firm.length):(s.read i).length=64:=by
 unfold Sim.read;split
 ·exact h.firm_ hi
 ·exact(h.wat_ (by have:=upTo_le s.loose i s.loose.length;omega)).2
theorem OK.burnt{s:Sim}(h:OK s):OK s.burnt:=⟨h.n,h.f,h.l,h.w,fun k hk=>by
 cases e:s.fuse with
 |none=>simp[Sim.burnt,e] at hk
 |some m=>have:=h.u m e;simp[Sim.burnt,e] at hk;omega,h.t⟩
theorem OK.put{s:Sim}(h:OK s){i:Nat}{b:List UInt8}(hi:i<s.firm.length)(hb:b.length≤64)(hw:s.loose.length<100000):OK (s.put i b):=
 ⟨h.n,h.f,fun x hx=>by
  rcases List.mem_append.1 hx with hx|hx
  ·exact h.l x hx
  ·simp at hx;subst hx;exact⟨hi,pad_length hb⟩,by simp[Sim.put];omega,h.burnt.u,(add_ok h.t.1 (by decide)).2,(add_ok h.t.2 (Nat.zero_le _)).2⟩
theorem OK.write{s:Sim}(h:OK s)(i:Int)(b:List UInt8)(hw:s.loose.length<100000):OK (s.write i b):=by
 unfold Sim.write;split
 ·rename_i e
  simp only[Bool.and_eq_true,decide_eq_true_eq,Sim.has_iff] at e;exact h.put (by omega) e.1.2 hw
 ·exact h
theorem OK.land{s:Sim}(h:OK s)(K:List Bool):OK (s.land K):=
 ⟨by show(kept _ _ _ _).length≤_;rw[kept_length];exact h.n,kept_all K h.f (fun x hx=>(h.l x hx).2) _ (Nat.le_refl _),fun x hx=>(by cases hx),Nat.zero_le _,h.u,h.t⟩
theorem OK.flush{s:Sim}(h:OK s):OK s.flush:=by
 unfold Sim.flush;split
 ·have:=h.burnt.land (List.replicate s.loose.length true)
  exact⟨this.n,this.f,this.l,this.w,this.u,(add_ok h.t.1 (Nat.zero_le _)).2,(add_ok h.t.2 (by decide)).2⟩
 ·exact h
theorem OK.crash{s:Sim}(h:OK s)(K:List Bool):OK (s.crash K):=by
 have:=h.land K;exact⟨this.n,this.f,this.l,this.w,fun k hk=>(by cases hk),h.t⟩
theorem OK.setFuse{s:Sim}(h:OK s)(n:Int)(hn:n≤1000):OK (s.setFuse n):=by
 unfold Sim.setFuse;split
 ·refine⟨h.n,h.f,h.l,h.w,fun k hk=>?_,h.t⟩
  have hk:(if 0≤n then some n.toNat else none)=some k:=hk;split at hk
  ·injection hk with hk;omega
  ·cases hk
 ·exact h
theorem flat_get{α:Type}{m:Nat}:∀{L:List (List α)},(∀x∈L,x.length=m)→∀{i j:Nat} (hi:i<L.length),j<m→L.flatten[i*m+j]? =L[i][j]?
 |x::L,h,0,j,_,hj=>by
  rw[List.flatten_cons,Nat.zero_mul,Nat.zero_add,List.getElem?_append_left (by rw[h x (by simp)];exact hj)];rfl
 |x::L,h,i+1,j,hi,hj=>by
  have hx:=h x (by simp);have hi':i<L.length:=by simpa using hi
  rw[List.flatten_cons,List.getElem?_append_right (by rw[hx,Nat.add_mul];omega),hx,show(i+1)*m+j-m=i*m+j from by rw[Nat.add_mul];omega,flat_get (fun y hy=>h y (by simp[hy])) hi' hj];rfl
theorem flat_length{α:Type}{m:Nat}:∀{L:List (List α)},(∀x∈L,x.length=m)→L.flatten.length=L.length*m
 | [],_=>by simp
 |x::L,h=>by
  rw[List.flatten_cons,List.length_append,h x (by simp),flat_length (fun y hy=>h y (by simp[hy])),List.length_cons,Nat.add_mul];omega
theorem flat_set{α:Type}{m:Nat}:∀{L:List (List α)},(∀x∈L,x.length=m)→∀{i:Nat} {d:List α},i<L.length→d.length=m→(L.set i d).flatten=L.flatten.take (i*m)++d++L.flatten.drop (i*m+m)
 |x::L,h,0,d,_,hd=>by
  have hx:=h x (by simp);rw[List.set_cons_zero,List.flatten_cons,List.flatten_cons,Nat.zero_mul,List.take_zero,List.nil_append,Nat.zero_add,List.drop_append_of_le_length (by omega),List.drop_of_length_le (by omega),List.nil_append]
 |x::L,h,i+1,d,hi,hd=>by
  have hx:=h x (by simp);have hi':i<L.length:=by simpa using hi
  rw[List.set_cons_succ,List.flatten_cons,List.flatten_cons,flat_set (fun y hy=>h y (by simp[hy])) hi' hd,Nat.add_mul,Nat.one_mul];have e1:(x++L.flatten).take (i*m+m)=x++L.flatten.take (i*m):=by
   rw[List.take_append,List.take_of_length_le (by omega)];congr 2;omega
  have e2:(x++L.flatten).drop (i*m+m+m)=L.flatten.drop (i*m+m):=by
   rw[List.drop_append,List.drop_of_length_le (by omega),List.nil_append];congr 1;omega
  rw[e1,e2];simp[List.append_assoc]
end Go.Dv
