/-
  Texts of the proof, put together.
-/
import Derived.Test.YtmbkaedhllfoeaaGreatKPI
import Derived.Test.YtmbkaedhllfoeaaGreatKPFA
set_option maxRecDepth 100000
set_option maxHeartbeats 4000000
set_option linter.unusedVariables false
namespace Go.Proofs.YtmbkaedhllfoeaaGreat.Upto
open Go.Rst Go.Dv
open Go.ChangeShapes Go.WideShapes Go.ChangeAt Go.RowKit
set_option linter.unusedVariables false
section
variable {H:Type} {enc:TypeId×Value→H} {W:World} {base:Nat} {spare:Nat→Bool} {held:Bool} {fuel:Nat}
theorem bulk_mem:∀{ds:List (DataW H)} {d:DataW H},d∈ds→Rows.uptoBulk d≤Rows.uptoBulkAll ds
 |x::ds,d,h=>by
  rw[Rows.uptoBulkAll];rcases List.mem_cons.1 h with rfl|h
  ·omega
  ·have:=bulk_mem h
   omega
theorem open_bools{v:Value}{x:DataW H×List MemPlace}(h:DataW.trod enc Tryz.prog W base spare held fuel 47 [v]=some x):
  ∃K:List Bool,BK W v K∧K.length≤Rows.uptoBulk x.1:=by
 rcases Go.Deep.open_slice Tryz.underlying47 h with ⟨hcs,hx⟩|⟨a,len,cap,m,n,Dt,Pl,hcs,_,hl,hm,hmm,hx,hi⟩
 ·simp only[List.cons.injEq,and_true] at hcs
  subst hcs;exact⟨[],⟨none,0,rfl,.inl rfl⟩,by simp⟩
 ·simp only[List.cons.injEq,and_true] at hcs
  subst hcs;have uH:len≤m:=by rw[hmm];split <;>omega
  have hall:∀i,i<len→∃b:Bool,W.cell? (a.add i)=some (.bool b):=by
   intro i hil;obtain⟨cs',hc,ht⟩:=hi i (by omega);rw[ce4,Nat.mul_one] at hc;obtain⟨_,hlen,hat⟩:=World.cells?_some hc;obtain⟨b,hb,_⟩:=DataW.trod_bool Tryz.underlying4 ht;subst hb;have a0:=hat 0 (by decide);exact⟨b,by simpa [Addr.add] using a0⟩
  have kR:∀n,n≤len→∃K:List Bool,K.length=n∧∀j (hj:j<K.length),W.cell? (a.add j)=some (.bool K[j]):=by
   intro n
   induction n with
   |zero=>intro _;exact⟨[],rfl,fun j hj=>by simp at hj⟩
   |succ n ih=>
    intro hn;obtain⟨K,hK,hc⟩:=ih (by omega);obtain⟨b,hb⟩:=hall n (by omega);refine⟨K++ [b],by simp[hK],fun j hj=>?_⟩;rw[List.length_append,List.length_singleton] at hj;by_cases hjn:j<K.length
    ·rw[List.getElem_append_left hjn];exact hc j hjn
    ·have e:j=K.length:=by omega
     subst e;rw[List.getElem_append_right (Nat.le_refl _)];simp only[Nat.sub_self,List.getElem_cons_zero];rw[hK];exact hb
  obtain⟨K,hK,hc⟩:=kR len (Nat.le_refl _);refine⟨K,⟨some a,cap,by rw[hK],?_⟩,?_⟩
  ·rcases Nat.eq_zero_or_pos len with h0|h0
   ·exact .inl (List.eq_nil_of_length_eq_zero (by omega))
   ·obtain⟨b,off,spot⟩:=a
    have c0:=hc 0 (by omega);have hspot:spot=none:=by simpa [Addr.add] using World.cell?_spot c0
    subst hspot;refine .inr ⟨b,off,rfl,?_,fun j hj=>?_⟩
    ·have h1:=block_lt_of_cell c0
     rw[Addr.add_lit] at h1;exact h1
    ·have h1:=hc j hj
     rw[Addr.add_lit] at h1;exact h1
  ·subst hx
   simp only[Rows.uptoBulk];have h1:=bulk_length ((List.range len).map Dt);simp only[List.length_map,List.length_range] at h1;omega
theorem open_deed{cs:List Value}{d:DataW H}{ps:List MemPlace}{b o:Nat}(hc:W.cells? base ⟨b,o,none⟩ 4=some cs)(h:DataW.trod enc Tryz.prog W base spare held fuel 49 cs=some (d,ps))(hbig:Rows.uptoBulk d≤2000000):
  ∃x:Deed,DeedAt W b o x∧x.c.length≤2000000∧x.keep.length≤2000000:=by
 obtain⟨_,hlen,hat⟩:=World.cells?_some hc;obtain⟨xs,n,_,hx,_,hxl,hf⟩:=DataW.trod_struct Tryz.underlying49 h
 match cs,hlen with
 | [c0,c1,c2,c3],_=>
  match xs,hxl with
  | [x0,x1,x2,x3],_=>
   have g0:DataW.trod enc Tryz.prog W base spare held n 5 [c0]=some x0:=by have:=hf 0 _ rfl;exact this
   have g1:DataW.trod enc Tryz.prog W base spare held n 46 [c1]=some x1:=by have:=hf 1 _ rfl;exact this
   have g2:DataW.trod enc Tryz.prog W base spare held n 47 [c2]=some x2:=by have:=hf 2 _ rfl;exact this
   have g3:DataW.trod enc Tryz.prog W base spare held n 5 [c3]=some x3:=by have:=hf 3 _ rfl;exact this
   obtain⟨k,hk,_,wk⟩:=DataW.trod_int Tryz.underlying5 g0;obtain⟨v,hv,_,wv⟩:=DataW.trod_int Tryz.underlying5 g3;have ed:d= .agg [x0.1,x1.1,x2.1,x3.1]:=congrArg Prod.fst hx;have hbk:Rows.uptoBulk x1.1≤2000000∧Rows.uptoBulk x2.1≤2000000:=by
    rw[ed] at hbig;simp only[Rows.uptoBulk,Rows.uptoBulkAll] at hbig;omega
   obtain⟨l,hl,hll⟩:=open_bytes g1;obtain⟨K,hK,wZ⟩:=open_bools g2;simp only[List.cons.injEq,and_true] at hk hv;subst hk;subst hv;have Ea:=wk;have CE:=wv;simp only[Lit.wf,Bool.and_eq_true,decide_eq_true_eq] at Ea CE;have mn:IntKind.u8.min=0:=rfl;have mx:IntKind.u8.max=255:=rfl;obtain⟨k',rfl⟩:=Int.eq_ofNat_of_zero_le (show 0≤k by omega);obtain⟨v',rfl⟩:=Int.eq_ofNat_of_zero_le (show 0≤v by omega);have a0:=hat 0 (by decide);have a1:=hat 1 (by decide);have a2:=hat 2 (by decide);have a3:=hat 3 (by decide);rw[Addr.add_lit] at a0 a1 a2 a3;exact⟨⟨k',l,K,v'⟩,⟨a0,⟨c1,a1,hl⟩,⟨c2,a2,hK⟩,a3,(show k'≤255 by omega),(show v'≤255 by omega),(show l.length≤140737488351232 by omega),(show K.length≤140737488351232 by omega)⟩,(show l.length≤2000000 by omega),(show K.length≤2000000 by omega)⟩
theorem open_deeds{v:Value}{x:DataW H×List MemPlace}(h:DataW.trod enc Tryz.prog W base spare held fuel 22 [v]=some x)(hbig:Rows.uptoBulk x.1≤2000000):
  ∃l:List Deed,DS W v l∧FewD l:=by
 rcases Go.Deep.open_slice Tryz.underlying22 h with ⟨hcs,hx⟩|⟨a,len,cap,m,n,Dt,Pl,hcs,_,hl,hm,hmm,hx,hi⟩
 ·simp only[List.cons.injEq,and_true] at hcs
  subst hcs;exact⟨[],⟨none,0,rfl,by simp,.inl rfl⟩,by simp[FewD]⟩
 ·simp only[List.cons.injEq,and_true] at hcs
  subst hcs;have uH:len≤m:=by rw[hmm];split <;>omega
  have hbl:Rows.uptoBulkAll ((List.range len).map Dt)≤2000000:=by
   rw[hx] at hbig;simp only[Rows.uptoBulk] at hbig;omega
  have h1:=bulk_length ((List.range len).map Dt);simp only[List.length_map,List.length_range] at h1;rcases Nat.eq_zero_or_pos len with h0|h0
  ·subst h0
   exact⟨[],⟨some a,cap,rfl,by simp,.inl rfl⟩,by simp[FewD]⟩
  ·have hspot:∃b off,a=⟨b,off,none⟩∧b<W.heap.size:=by
    obtain⟨cs',hc,ht⟩:=hi 0 (by omega);rw[ceDeed] at hc;obtain⟨_,hlen,hat⟩:=World.cells?_some hc;obtain⟨b,off,spot⟩:=a;have c0:=hat 0 (by omega);rw[Nat.zero_mul] at c0;rw[List.getElem?_eq_getElem (by omega)] at c0;have hs:spot=none:=by simpa [Addr.add] using World.cell?_spot c0
    subst hs;refine⟨b,off,rfl,?_⟩;have:=block_lt_of_cell c0;rw[Addr.add_lit,Addr.add_lit] at this;exact this
   obtain⟨b,off,rfl,hb⟩:=hspot;have hall:∀i,i<len→∃x:Deed,DeedAt W b (off+i*4) x∧x.c.length≤2000000∧x.keep.length≤2000000:=by
    intro i hil;obtain⟨cs',hc,ht⟩:=hi i (by omega);rw[ceDeed,Addr.add_lit] at hc;refine open_deed hc ht ?_;have:=bulk_mem (d:=Dt i) (List.mem_map.2 ⟨i,List.mem_range.2 hil,rfl⟩:Dt i∈(List.range len).map Dt);omega
   have kR:∀n,n≤len→∃l:List Deed,l.length=n∧∀j (hj:j<l.length),DeedAt W b (off+j*4) l[j]∧l[j].c.length≤2000000∧l[j].keep.length≤2000000:=by
    intro n
    induction n with
    |zero=>intro _;exact⟨[],rfl,fun j hj=>by simp at hj⟩
    |succ n ih=>
     intro hn;obtain⟨l,hL,hc⟩:=ih (by omega);obtain⟨x,hx⟩:=hall n (by omega);refine⟨l++ [x],by simp[hL],fun j hj=>?_⟩;rw[List.length_append,List.length_singleton] at hj;by_cases hjn:j<l.length
     ·rw[List.getElem_append_left hjn];exact hc j hjn
     ·have e:j=l.length:=by omega
      subst e;rw[List.getElem_append_right (Nat.le_refl _)];simp only[Nat.sub_self,List.getElem_cons_zero];rw[hL];exact hx
   obtain⟨l,hL,hc⟩:=kR len (Nat.le_refl _);refine⟨l,⟨some ⟨b,off,none⟩,cap,by rw[hL],by omega,.inr ⟨b,off,rfl,hb,fun j hj=>(hc j hj).1⟩⟩,by omega,fun x hx=>?_⟩;obtain⟨j,hj,rfl⟩:=List.getElem_of_mem hx;have:=(hc j hj).2;omega
end
end Go.Proofs.YtmbkaedhllfoeaaGreat.Upto
