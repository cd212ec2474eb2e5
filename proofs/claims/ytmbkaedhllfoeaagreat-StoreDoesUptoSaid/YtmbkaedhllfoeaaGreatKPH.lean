/-
  Texts of the proof, put together.
-/
import Derived.Deep.RegionHeld3
import Derived.Deep.AppendLies
import Derived.Test.YtmbkaedhllfoeaaGreatKPG
import Derived.Test.YtmbkaedhllfoeaaGreatKPWr
set_option maxRecDepth 100000
set_option maxHeartbeats 4000000
set_option linter.unusedVariables false
namespace Go.Proofs.YtmbkaedhllfoeaaGreat
open Go.RowKit Go.Rst
theorem row_keep{w X w3:World}{g:Nat}{k v:Value}{l:List UInt8}(hb:Below X.heap.size X w3)(h0:X.cell? ⟨g,0,none⟩=some k)(h1:X.cell? ⟨g,1,none⟩=some v)
  (hr:RB X v l) (hB:Below w.heap.size w X) (hs:g<X.heap.size):
  w3.cell? ⟨g,0,none⟩=some k∧w3.cell? ⟨g,1,none⟩=some v∧(convert 46 9 v).run Tryz.prog w3= .ok (.string ⟨l.toArray⟩) w3∧RB w3 v l∧Below w.heap.size w w3∧g<w3.heap.size:=
 ⟨(hb.cell (p:=⟨g,0,none⟩) hs).trans h0,(hb.cell (p:=⟨g,1,none⟩) hs).trans h1,(hr.below hb).str Tryz.underlying46 Tryz.underlying5 Tryz.underlying9,hr.below hb,hB.trans (hb.mono hB.size),by have:=hb.size;omega⟩
theorem row_kept{w X w3:World}{g:Nat}{k v:Value}{l:List UInt8}
  (h:X.cell? ⟨g,0,none⟩=some k∧X.cell? ⟨g,1,none⟩=some v∧(convert 46 9 v).run Tryz.prog X= .ok (.string ⟨l.toArray⟩) X∧RB X v l∧Below w.heap.size w X∧g<X.heap.size)
  (hb:Below X.heap.size X w3):
  w3.cell? ⟨g,0,none⟩=some k∧w3.cell? ⟨g,1,none⟩=some v∧(convert 46 9 v).run Tryz.prog w3= .ok (.string ⟨l.toArray⟩) w3∧RB w3 v l∧Below w.heap.size w w3∧g<w3.heap.size:=
 row_keep hb h.1 h.2.1 h.2.2.2.1 h.2.2.2.2.1 h.2.2.2.2.2
theorem ba_eq(k:ByteArray):(⟨k.data.toList.toArray⟩:ByteArray)=k:=by cases k;simp
def Short(rs:List (ByteArray×List UInt8)):Prop:=∀r∈rs,r.1.data.toList.length≤30∧r.2.length≤150
theorem rowsAt_length(l:List UInt8)(k:Nat):(rowsAt l k).length=k:=by simp[rowsAt]
theorem nrows_le(l:List UInt8)(n:Nat):nrows l n≤n:=by unfold nrows;omega
theorem rowsAt_short(l:List UInt8)(k:Nat):Short (rowsAt l k):=by
 intro r hr;simp only[rowsAt,List.mem_map] at hr;obtain⟨j,_,rfl⟩:=hr;unfold rowOf;refine⟨by simp,?_⟩;simp only[fill_length];unfold rlen;split <;>omega
def getChange(l:List UInt8)(p:Int):List UInt8×List UInt8×Bool×Int×Int:=
 if (getText l p 30).2.2≠0 then ([],[],false,0,(getText l p 30).2.2)
 else if (l.length:Int)≤(getText l p 30).2.1 then ([],[],false,0,10)
 else if l.getD (getText l p 30).2.1.toNat 0=1 then ((getText l p 30).1,[],true,(getText l p 30).2.1+1,0)
 else if l.getD (getText l p 30).2.1.toNat 0≠0 then ([],[],false,0,11)
 else if (getText l ((getText l p 30).2.1+1) 150).2.2≠0 then ([],[],false,0,(getText l ((getText l p 30).2.1+1) 150).2.2)
 else ((getText l p 30).1,(getText l ((getText l p 30).2.1+1) 150).1,false,(getText l ((getText l p 30).2.1+1) 150).2.1,0)
def GivesChange(w:World)(r:List UInt8×List UInt8×Bool×Int×Int)(x:Ending)(w':World):Prop:=
 ∃u,x= .returned (.tuple #[.agg #[.string ⟨r.1.toArray⟩,u,.bool r.2.2.1],.int .i64 r.2.2.2.1,.int .u16 r.2.2.2.2])∧FB 5 w' w.heap.size u r.2.1∧Below w.heap.size w w'
theorem takeChange_any(v:Value)(l:List UInt8)(p:Int)(w:World)(hv:RB w v l):Calls Tryz.prog 154 #[v,.int .i64 p] w (GivesChange w (getChange l p)):=by
 have hs1:=getText_spec l p 30;obtain⟨k,q,e1,hg1⟩:∃k q e,getText l p 30=(k,q,e):=⟨_,_,_,rfl⟩
 rw[hg1] at hs1;have bz:∀W,RB W v l→_:=fun W hW=>getText_any v l p 30 W hW
 rw[hg1] at bz;have H1:=qH bz;have G1:=qH hg1;have HV:=qH hv;have hv0:=hv;obtain⟨A,c,rfl,hlc,hc,hcells⟩:=hv0;have HC:=qH hcells;unfold maxLen at hc;clear bz hg1 hv hcells;simp only[] at hs1;rcases hs1 with ⟨rfl,h1⟩|⟨her,rfl,rfl⟩
 ·by_cases hin:(l.length:Int)≤q
  ·have e:getChange l p=([],[],false,0,10):=by unfold getChange;rw[G1.out];simp[hin]
   rw[e];clear e;go_enter Tryz.func154,Tryz.ntmps154;go_wp2;refine wp_scope_fwd 0 rfl ?_;go_wp2_with fail
   refine(H1.out _ (HV.out.alloc _)).mono ?_;rintro x w1⟨rfl,rfl⟩;go_wp2;go_step3;refine⟨rfl,?_⟩;unfold Behind;go_wp2;rw[Exit.noGoto_ret];refine bodyPost_ret (v:= .tuple #[.agg #[.string ⟨#[]⟩,.slice none 0 0,.bool false],.int .i64 0,.int .u16 10]) (by simp[results,Tryz.results154,go_sem]) rfl ⟨.slice none 0 0,rfl,.inl ⟨rfl,rfl⟩,?_⟩;exact(Below.refl _ _).alloc (Nat.le_refl _) _
  ·obtain⟨q,rfl⟩:=Int.eq_ofNat_of_zero_le h1.1
   have hq:q<l.length:=by omega
   obtain⟨b,off,rfl,hb,hcell⟩:∃b off,A=some ⟨b,off,none⟩∧b<w.heap.size∧∀j (h:j<l.length),w.cell? ⟨b,off+j,none⟩=some (bv l[j]):=by
    rcases HC.out with rfl|h
    ·simp at hq
    ·exact h
   have hc1:=(World.cell?_alloc_lt w (Obj.cells #[.string ⟨#[]⟩,.slice none 0 0,.bool false] 76) ⟨b,off+q,none⟩ hb).trans (hcell q hq);obtain⟨d,hd⟩:∃d,d=l[q]:=⟨_,rfl⟩
   have wO:(d.toNat:Int)<256:=by have:=d.toNat_lt;omega
   have hgd:l.getD (Int.toNat (q:Int)) 0=d:=by rw[Int.toNat_natCast,List.getD_eq_getElem?_getD,List.getElem?_eq_getElem hq,hd];rfl
   unfold bv at hc1;rw[←hd] at hc1;have GD:=qH hgd;clear hcell hd hgd HC;by_cases hone:d=1
   ·have e:getChange l p=(k,[],true,(q:Int)+1,0):=by unfold getChange;rw[G1.out];simp only[GD.out];simp[hone,hq]
    rw[e];subst hone;clear e;go_enter Tryz.func154,Tryz.ntmps154;go_wp2;refine wp_scope_fwd 0 rfl ?_;go_wp2_with fail
    refine(H1.out _ (HV.out.alloc _)).mono ?_;rintro x w1⟨rfl,rfl⟩;go_wp2;simp only[Exit.jump];refine bodyPost_ret (v:= .tuple #[.agg #[.string ⟨k.toArray⟩,.slice none 0 0,.bool true],.int .i64 ((q:Int)+1),.int .u16 0]) (by simp[results,Tryz.results154,go_sem]) rfl ⟨.slice none 0 0,rfl,.inl ⟨rfl,rfl⟩,?_⟩;exact(Below.refl _ _).alloc (Nat.le_refl _) _
   ·have pS:((d.toNat:Int)==1)=false:=by
     rw[beq_eq_false_iff_ne];intro h;exact hone (UInt8.toNat_inj.1 (by rw[show(1:UInt8).toNat=1 from rfl];omega))
    by_cases hzero:d=0
    ·subst hzero
     have hs2:=getText_spec l ((q:Int)+1) 150;obtain⟨u,q2,e2,hg2⟩:∃k q' e,getText l ((q:Int)+1) 150=(k,q',e):=⟨_,_,_,rfl⟩
     rw[hg2] at hs2;have cy:∀W,RB W _ l→_:=fun W hW=>getText_any (.slice (some ⟨b,off,none⟩) l.length c) l ((q:Int)+1) 150 W hW
     rw[hg2] at cy;have H2:=qH cy;have G2:=qH hg2;clear cy hg2 pS;simp only[] at hs2;rcases hs2 with ⟨rfl,h2⟩|⟨her,rfl,rfl⟩
     ·have e:getChange l p=(k,u,false,q2,0):=by unfold getChange;rw[G1.out];simp only[GD.out,G2.out];simp[hq]
      rw[e];clear e;have hlen:u.length≤150:=by have:=h2.2.2.2.2.1;omega
      go_enter Tryz.func154,Tryz.ntmps154;go_wp2;refine wp_scope_fwd 0 rfl ?_;go_wp2_with fail
      refine(H1.out _ (HV.out.alloc _)).mono ?_;rintro x w1⟨rfl,rfl⟩;go_wp2_with fail
      refine(H2.out _ (HV.out.alloc _)).mono ?_;rintro x w1⟨rfl,rfl⟩;go_wp2_with (refine wpList_bytes rfl (.tmp 48) 9 46 5 rfl Tryz.underlying9 Tryz.underlying46 Tryz.underlying5 (by rfl) ?_ ?_)
      ·unfold maxLen;omega
      ·intro g cc w' bB hb2
       have hx0:w'.cell? ⟨w.heap.size,0,none⟩=some (.string ⟨#[]⟩):=(hb2.cell (p:=⟨w.heap.size,0,none⟩) (by simp)).trans (by simp);have hx1:w'.cell? ⟨w.heap.size,1,none⟩=some (.slice none 0 0):=(hb2.cell (p:=⟨w.heap.size,1,none⟩) (by simp)).trans (by simp);have hx2:w'.cell? ⟨w.heap.size,2,none⟩=some (.bool false):=(hb2.cell (p:=⟨w.heap.size,2,none⟩) (by simp)).trans (by simp);have ii:w'.frozen? ⟨w.heap.size,0,none⟩=false:=(hb2.frozen (p:=⟨w.heap.size,0,none⟩) (by simp)).trans (by simp);have eo:w'.frozen? ⟨w.heap.size,1,none⟩=false:=(hb2.frozen (p:=⟨w.heap.size,1,none⟩) (by simp)).trans (by simp);have hf2:w'.frozen? ⟨w.heap.size,2,none⟩=false:=(hb2.frozen (p:=⟨w.heap.size,2,none⟩) (by simp)).trans (by simp);have hb3:Below w.heap.size w w':=((Below.refl _ _).alloc (Nat.le_refl _) _).trans (hb2.mono (by simp));have jc:=bB.base_ (base':=w.heap.size+1) (Nat.le_refl _);clear hc1;go_wp2;simp only[Exit.jump];refine bodyPost_ret (v:= .tuple #[.agg #[.string ⟨k.toArray⟩,.slice (some ⟨g,0,none⟩) u.length cc,.bool false],.int .i64 q2,.int .u16 0]) (by simp[results,Tryz.results154,go_sem,hx0,hx1,hx2]) rfl ⟨_,rfl,?_,?_⟩
       ·exact(((jc.setCell (by simp) _).setCell (by simp) _).setCell (by simp) _).base_ (Nat.le_succ _)
       ·exact((hb3.setCell (Nat.le_refl _) _).setCell (Nat.le_refl _) _).setCell (Nat.le_refl _) _
     ·have e:getChange l p=([],[],false,0,e2):=by unfold getChange;rw[G1.out];simp only[GD.out,G2.out];rcases her with rfl|rfl|rfl <;>simp[hq]
      rw[e];have hne:(e2 !=0)=true:=by rcases her with rfl|rfl|rfl <;>rfl
      clear e her;go_enter Tryz.func154,Tryz.ntmps154;go_wp2;refine wp_scope_fwd 0 rfl ?_;go_wp2_with fail
      refine(H1.out _ (HV.out.alloc _)).mono ?_;rintro x w1⟨rfl,rfl⟩;go_wp2_with fail
      refine(H2.out _ (HV.out.alloc _)).mono ?_;rintro x w1⟨rfl,rfl⟩;go_wp2;go_step3;refine⟨rfl,?_⟩;unfold Behind;go_wp2;rw[Exit.noGoto_ret];refine bodyPost_ret (v:= .tuple #[.agg #[.string ⟨#[]⟩,.slice none 0 0,.bool false],.int .i64 0,.int .u16 e2]) (by simp[results,Tryz.results154,go_sem]) rfl ⟨.slice none 0 0,rfl,.inl ⟨rfl,rfl⟩,?_⟩;exact(Below.refl _ _).alloc (Nat.le_refl _) _
    ·have e:getChange l p=([],[],false,0,11):=by unfold getChange;rw[G1.out];simp only[GD.out];simp[hone,hzero,hq]
     rw[e];have Dn:((d.toNat:Int) !=0)=true:=by
      rw[bne_iff_ne];intro h;exact hzero (UInt8.toNat_inj.1 (by rw[show(0:UInt8).toNat=0 from rfl];omega))
     clear e;go_enter Tryz.func154,Tryz.ntmps154;go_wp2;refine wp_scope_fwd 0 rfl ?_;go_wp2_with fail
     refine(H1.out _ (HV.out.alloc _)).mono ?_;rintro x w1⟨rfl,rfl⟩;go_wp2;go_step3;refine⟨rfl,?_⟩;unfold Behind;go_wp2;rw[Exit.noGoto_ret];refine bodyPost_ret (v:= .tuple #[.agg #[.string ⟨#[]⟩,.slice none 0 0,.bool false],.int .i64 0,.int .u16 11]) (by simp[results,Tryz.results154,go_sem]) rfl ⟨.slice none 0 0,rfl,.inl ⟨rfl,rfl⟩,?_⟩;exact(Below.refl _ _).alloc (Nat.le_refl _) _
 ·have e:getChange l p=([],[],false,0,e1):=by unfold getChange;rw[G1.out];rcases her with rfl|rfl|rfl <;>simp
  rw[e];have hne:(e1 !=0)=true:=by rcases her with rfl|rfl|rfl <;>rfl
  clear e her;go_enter Tryz.func154,Tryz.ntmps154;go_wp2;refine wp_scope_fwd 0 rfl ?_;go_wp2_with fail
  refine(H1.out _ (HV.out.alloc _)).mono ?_;rintro x w1⟨rfl,rfl⟩;go_wp2;go_step3;refine⟨rfl,?_⟩;unfold Behind;go_wp2;rw[Exit.noGoto_ret];refine bodyPost_ret (v:= .tuple #[.agg #[.string ⟨#[]⟩,.slice none 0 0,.bool false],.int .i64 0,.int .u16 e1]) (by simp[results,Tryz.results154,go_sem]) rfl ⟨.slice none 0 0,rfl,.inl ⟨rfl,rfl⟩,?_⟩;exact(Below.refl _ _).alloc (Nat.le_refl _) _
theorem info76:(Tryz.prog.info? 76).map (fun i=>(i.zero,i.size,i.bytes))=some (some (.agg #[.string ⟨#[]⟩,.slice none 0 0,.bool false]),3,48):=by kernel_rfl
def chgsF(l:List UInt8):Nat→Int→List Chg→List Chg×Int
 |0,q,acc=>if q<l.length then ([],11) else (acc,0)
 |f+1,q,acc=>if (getChange l q).2.2.2.2≠0 then ([],(getChange l q).2.2.2.2) else chgsF l f (getChange l q).2.2.2.1 (acc++ [(⟨(getChange l q).1.toArray⟩,(getChange l q).2.1,(getChange l q).2.2.1)])
def readChgs(l:List UInt8):List Chg×Int:=
 if (getNum l 0).2.2≠0 then ([],(getNum l 0).2.2) else if 5000<(getNum l 0).1 then ([],3) else chgsF l (getNum l 0).1.toNat (getNum l 0).2.1 []
def GivesChgs(w:World)(r:List Chg×Int)(x:Ending)(w':World):Prop:=
 ∃v,x= .returned (.tuple #[v,.int .u16 r.2])∧OC 5 76 w' w.heap.size v r.1∧Below w.heap.size w w'
theorem getChange_err(l:List UInt8)(p:Int):(getChange l p).2.2.2.2=0∨(getChange l p).2.2.2.2=3∨(getChange l p).2.2.2.2=10∨(getChange l p).2.2.2.2=11:=by
 have h1:=getText_spec l p 30;have h2:=getText_spec l ((getText l p 30).2.1+1) 150;unfold getChange;split
 ·rcases h1 with h1|h1
  ·exact .inl h1.1
  ·exact .inr h1.1
 ·split
  ·exact .inr (.inr (.inl rfl))
  ·split
   ·exact .inl rfl
   ·split
    ·exact .inr (.inr (.inr rfl))
    ·split
     ·rcases h2 with h2|h2
      ·exact .inl h2.1
      ·exact .inr h2.1
     ·exact .inl rfl
theorem takeC_any(v:Value)(l:List UInt8)(w:World)(hv:RB w v l):Calls Tryz.prog 153 #[v,.func (Fn.func 154) #[] #[]] w (GivesChgs w (readChgs l)):=by
 have hs1:=getNum_spec l 0;obtain⟨n,q,e1,hg1⟩:∃k q e,getNum l 0=(k,q,e):=⟨_,_,_,rfl⟩
 rw[hg1] at hs1;have bz:∀W,RB W v l→_:=fun W hW=>getNum_any v l 0 W hW
 rw[hg1] at bz;have H1:=qH bz;have G1:=qH hg1;have HV:=qH hv;have HLEN:∃A c,v= .slice A l.length c:=by obtain⟨A,c,h,_⟩:=hv;exact⟨A,c,h⟩
 obtain⟨Av,cv,rfl⟩:=HLEN;clear bz hg1 hv;simp only[] at hs1;rcases hs1 with ⟨rfl,h1⟩|⟨her,rfl,rfl⟩
 ·by_cases hbig:5000<n
  ·have e:readChgs l=([],3):=by unfold readChgs;rw[G1.out];simp[hbig]
   rw[e];clear e;go_enter Tryz.func153,Tryz.ntmps153;go_wp2;refine wp_scope_fwd 0 rfl ?_;go_wp2_with fail
   refine(H1.out _ (HV.out.alloc _)).mono ?_;rintro x w1⟨rfl,rfl⟩;go_wp2;go_step3;refine⟨rfl,?_⟩;unfold Behind;go_wp2;rw[Exit.noGoto_ret]
   go_ret2
   exact⟨_,rfl,OC.nil_ _ _ _ _,(Below.refl _ _).alloc (Nat.le_refl _) _⟩
  ·obtain⟨n,rfl⟩:=Int.eq_ofNat_of_zero_le h1.1
   have e:readChgs l=chgsF l n q []:=by unfold readChgs;rw[G1.out];simp[show ¬(5000:Int)<(n:Int) from hbig]
   rw[e];clear e;have Er:(l.length:Int)≤9223372036854775807:=by
    obtain⟨A,c,h,h2,h3,_⟩:=HV.out;unfold maxLen at h3;omega
   go_enter Tryz.func153,Tryz.ntmps153;go_wp2;refine wp_scope_fwd 0 rfl ?_;go_wp2_with fail
   refine(H1.out _ (HV.out.alloc _)).mono ?_;rintro x w1⟨rfl,rfl⟩;go_wp2_with fail
   go_loopw [6,9,10,22] (fun rv qv ev i wr=>∃(k:Nat) (acc:List Chg) (qq:Int),k≤n∧i= .int .i64 k∧ev= .int .u16 0∧qv= .int .i64 qq∧acc.length=k∧OC 5 76 wr (w.heap.size+1) rv acc∧Below w.heap.size w wr∧w.heap.size<wr.heap.size∧
     (∃a b d,wr.cell? ⟨w.heap.size,0,none⟩=some a∧wr.cell? ⟨w.heap.size,1,none⟩=some b∧wr.cell? ⟨w.heap.size,2,none⟩=some d)∧wr.frozen? ⟨w.heap.size,0,none⟩=false∧wr.frozen? ⟨w.heap.size,1,none⟩=false∧wr.frozen? ⟨w.heap.size,2,none⟩=false∧chgsF l (n-k) qq acc=chgsF l n q [])
    (fun _ _ _ i _=>n-(intOf i).toNat)
   case atStart=>exact⟨0,[],q,Nat.zero_le _,rfl,rfl,rfl,rfl,OC.nil_ _ _ _ _,(Below.refl _ _).alloc (Nat.le_refl _) _,by simp,⟨_,_,_,by simp;rfl,by simp;rfl,by simp;rfl⟩,by simp,by simp,by simp,rfl⟩
   case round=>
    obtain⟨k,acc,qq,hk,rfl,rfl,rfl,hal,aK,ad,hsz,⟨ca,cb,cd,oC,hcb,Gj⟩,uf,bB,sA,heq⟩:=hrel;have HE:=qH heq;have ir:=qH hal;clear heq hal;by_cases hlt:k<n
    ·have yD:=getChange_err l qq
     have hstep:chgsF l (n-k) qq acc=if (getChange l qq).2.2.2.2≠0 then ([],(getChange l qq).2.2.2.2) else chgsF l (n-k-1) (getChange l qq).2.2.2.1 (acc++ [(⟨(getChange l qq).1.toArray⟩,(getChange l qq).2.1,(getChange l qq).2.2.1)]):=by
      rw[show n-k=(n-k-1)+1 from by omega,chgsF];rfl
     rw[hstep] at HE;clear hstep;have hcall:=takeChange_any (.slice Av l.length cv) l qq wr (HV.out.below ad);generalize getChange l qq=r at *;obtain⟨rk,rl,rg,rq,re⟩:=r;simp only[] at HE hcall yD;have HC:=qH hcall;have ry:=qH ad;clear hcall ad;go_wp2_with fail
     refine HC.out.mono ?_;rintro x w2⟨u,rfl,dQ,hb2⟩;obtain⟨Au,cu,rfl⟩:=dQ.shape;simp only[] at dQ;have hc0:=(hb2.cell (p:=⟨w.heap.size,0,none⟩) hsz).trans oC;have hc1:=(hb2.cell (p:=⟨w.heap.size,1,none⟩) hsz).trans hcb;have hc2:=(hb2.cell (p:=⟨w.heap.size,2,none⟩) hsz).trans Gj;have hf2:=(hb2.frozen (p:=⟨w.heap.size,2,none⟩) hsz).trans sA;have ii:=(hb2.frozen (p:=⟨w.heap.size,0,none⟩) hsz).trans uf;have eo:=(hb2.frozen (p:=⟨w.heap.size,1,none⟩) hsz).trans bB;have fJ:=aK.below hb2;have ag:Below w.heap.size w w2:=ry.out.trans (hb2.mono (Nat.le_of_lt hsz));have bm:w.heap.size<w2.heap.size:=by have:=hb2.size;omega
     have zG:=dQ.base_ (base':=w.heap.size+1) hsz;clear oC hcb Gj uf bB sA aK hsz HC dQ hb2 ry;by_cases hre:re=0
     ·obtain rfl:=hre
      have ct:=(((fJ.setCell (p:=⟨w.heap.size,0,none⟩) (Nat.lt_succ_self _) (.string ⟨rk.toArray⟩)).setCell (p:=⟨w.heap.size,1,none⟩) (Nat.lt_succ_self _) (.slice Au rl.length cu)).setCell (p:=⟨w.heap.size,2,none⟩) (Nat.lt_succ_self _) (.bool rg)).alloc (Obj.cells #[.string ⟨rk.toArray⟩,.slice Au rl.length cu,.bool rg] 76);have yK:=(((zG.setCell (p:=⟨w.heap.size,0,none⟩) (Nat.lt_succ_self _) (.string ⟨rk.toArray⟩)).setCell (p:=⟨w.heap.size,1,none⟩) (Nat.lt_succ_self _) (.slice Au rl.length cu)).setCell (p:=⟨w.heap.size,2,none⟩) (Nat.lt_succ_self _) (.bool rg)).below ((Below.refl _ _).alloc (Nat.le_refl _) (Obj.cells #[.string ⟨rk.toArray⟩,.slice Au rl.length cu,.bool rg] 76));have bA:Below w.heap.size w (((w2.setCell ⟨w.heap.size,0,none⟩ (.string ⟨rk.toArray⟩)).setCell ⟨w.heap.size,1,none⟩ (.slice Au rl.length cu)).setCell ⟨w.heap.size,2,none⟩ (.bool rg)):=((ag.setCell (Nat.le_refl _) _).setCell (Nat.le_refl _) _).setCell (Nat.le_refl _) _;have aA:=bA.alloc bA.size (Obj.cells #[.string ⟨rk.toArray⟩,.slice Au rl.length cu,.bool rg] 76);obtain⟨us,ah,ho,bC⟩:=ct;have yN:us.length=acc.length:=by rw[←ah,List.length_map]
      have jH:=qH yN;have ce:=qH ah;have IQ:Hid (((((w2.setCell ⟨w.heap.size,0,none⟩ (.string ⟨rk.toArray⟩)).setCell ⟨w.heap.size,1,none⟩ (.slice Au rl.length cu)).setCell ⟨w.heap.size,2,none⟩ (.bool rg)).alloc (Obj.cells #[.string ⟨rk.toArray⟩,.slice Au rl.length cu,.bool rg] 76)).cell? ⟨w.heap.size,0,none⟩=some (.string ⟨rk.toArray⟩)):=qH (by simp[go_sem,hc0,bm]);have Ah:Hid (((((w2.setCell ⟨w.heap.size,0,none⟩ (.string ⟨rk.toArray⟩)).setCell ⟨w.heap.size,1,none⟩ (.slice Au rl.length cu)).setCell ⟨w.heap.size,2,none⟩ (.bool rg)).alloc (Obj.cells #[.string ⟨rk.toArray⟩,.slice Au rl.length cu,.bool rg] 76)).cell? ⟨w.heap.size,1,none⟩=some (.slice Au rl.length cu)):=qH (by simp[go_sem,hc1,bm]);have Iv:Hid (((((w2.setCell ⟨w.heap.size,0,none⟩ (.string ⟨rk.toArray⟩)).setCell ⟨w.heap.size,1,none⟩ (.slice Au rl.length cu)).setCell ⟨w.heap.size,2,none⟩ (.bool rg)).alloc (Obj.cells #[.string ⟨rk.toArray⟩,.slice Au rl.length cu,.bool rg] 76)).cell? ⟨w.heap.size,2,none⟩=some (.bool rg)):=qH (by simp[go_sem,hc2,bm]);have jz:Hid (((((w2.setCell ⟨w.heap.size,0,none⟩ (.string ⟨rk.toArray⟩)).setCell ⟨w.heap.size,1,none⟩ (.slice Au rl.length cu)).setCell ⟨w.heap.size,2,none⟩ (.bool rg)).alloc (Obj.cells #[.string ⟨rk.toArray⟩,.slice Au rl.length cu,.bool rg] 76)).frozen? ⟨w.heap.size,2,none⟩=false):=qH (by simp[go_sem,hf2,bm]);have sS:Hid (((((w2.setCell ⟨w.heap.size,0,none⟩ (.string ⟨rk.toArray⟩)).setCell ⟨w.heap.size,1,none⟩ (.slice Au rl.length cu)).setCell ⟨w.heap.size,2,none⟩ (.bool rg)).alloc (Obj.cells #[.string ⟨rk.toArray⟩,.slice Au rl.length cu,.bool rg] 76)).frozen? ⟨w.heap.size,0,none⟩=false):=qH (by simp[go_sem,ii,bm]);have lF:Hid (((((w2.setCell ⟨w.heap.size,0,none⟩ (.string ⟨rk.toArray⟩)).setCell ⟨w.heap.size,1,none⟩ (.slice Au rl.length cu)).setCell ⟨w.heap.size,2,none⟩ (.bool rg)).alloc (Obj.cells #[.string ⟨rk.toArray⟩,.slice Au rl.length cu,.bool rg] 76)).frozen? ⟨w.heap.size,1,none⟩=false):=qH (by simp[go_sem,eo,bm]);clear fJ zG ag ah yN bA;go_wp2_with (at_builtin;refine wpList_own rfl (.tmp 34) (.tmp 36) 56 56 rfl (w.heap.size+1) 76 (.agg #[.string ⟨#[]⟩,.slice none 0 0,.bool false]) 3 48 Tryz.underlying56 info76 rfl rfl ho rfl (src_three _ (by simp) Tryz.underlying56 76 _ _ _ rfl rfl rfl) aA (Nat.le_succ _) ?_ ?_ ?_ ?_)
      ·have:=jH.out;have:=ir.out;unfold maxLen;omega
      ·have:=jH.out;have:=ir.out;omega
      ·simp;omega
      ·intro v' w4 ho' hb4 hg4
       have aM:=OC.push (by decide) ho bC yK ho' hg4;rw[ce.out] at aM;have hblk:w4.heap[w.heap.size]? =_:=hg4.block w.heap.size (by simp;omega) (fun e=>by have:=(ho.lt _ e.symm).1;omega);have hy0:=(World.cell?_of_block (a:=⟨w.heap.size,0,none⟩) hblk).trans IQ.out;have hy1:=(World.cell?_of_block (a:=⟨w.heap.size,1,none⟩) hblk).trans Ah.out;have hy2:=(World.cell?_of_block (a:=⟨w.heap.size,2,none⟩) hblk).trans Iv.out;have hz2:=(World.frozen?_of_block (a:=⟨w.heap.size,2,none⟩) hblk).trans jz.out;have hz0:=(World.frozen?_of_block (a:=⟨w.heap.size,0,none⟩) hblk).trans sS.out;have hz1:=(World.frozen?_of_block (a:=⟨w.heap.size,1,none⟩) hblk).trans lF.out;clear hblk;have jG:w.heap.size<w4.heap.size:=by have:=hg4.size;simp at this;omega
       clear ho bC yK ho' hg4 hc0 hc1 hc2 ii eo hf2 bm;have jp:=qH aM;clear aM;go_wp2;go_roundw
       case rel=>exact⟨k+1,_,rq,by omega,by go_num,rfl,rfl,by rw[List.length_append,ir.out];rfl,jp.out,hb4,jG,⟨_,_,_,hy0,hy1,hy2⟩,hz0,hz1,hz2,by rw[←HE.out,if_neg (by simp)];congr 1⟩
       case measure=>simp[intOf];omega
     ·have hE:=HE.out
      rw[if_pos hre] at hE;have C6:=qH hE;have hne:(re !=0)=true:=by simpa using hre
      clear yD hE HE hre;go_wp2;go_step3;refine⟨rfl,?_⟩;unfold Behind;go_wp2;rw[Exit.noGoto_ret]
      go_ret2
      rw[←C6.out];exact⟨_,rfl,OC.nil_ _ _ _ _,((ag.setCell (Nat.le_refl _) _).setCell (Nat.le_refl _) _).setCell (Nat.le_refl _) _⟩
    ·obtain rfl:k=n:=by omega
     rw[Nat.sub_self,chgsF] at HE;by_cases hend:qq<(l.length:Int)
     ·rw[if_pos hend] at HE
      go_wp2;go_step3;refine⟨rfl,?_⟩;unfold Behind;go_wp2;rw[Exit.noGoto_ret]
      go_ret2
      rw[←HE.out];exact⟨_,rfl,OC.nil_ _ _ _ _,ad⟩
     ·rw[if_neg hend] at HE
      go_wp2;simp only[Exit.jump]
      go_ret2
      rw[←HE.out];exact⟨_,rfl,aK.base_ (Nat.le_succ _),ad⟩
 ·have e:readChgs l=([],e1):=by unfold readChgs;rw[G1.out];rcases her with rfl|rfl <;>simp
  rw[e];have hne:(e1 !=0)=true:=by rcases her with rfl|rfl <;>rfl
  clear e her;go_enter Tryz.func153,Tryz.ntmps153;go_wp2;refine wp_scope_fwd 0 rfl ?_;go_wp2_with fail
  refine(H1.out _ (HV.out.alloc _)).mono ?_;rintro x w1⟨rfl,rfl⟩;go_wp2;go_step3;refine⟨rfl,?_⟩;unfold Behind;go_wp2;rw[Exit.noGoto_ret]
  go_ret2
  exact⟨_,rfl,OC.nil_ _ _ _ _,(Below.refl _ _).alloc (Nat.le_refl _) _⟩
theorem readChgs_any(v:Value)(l:List UInt8)(w:World)(hv:RB w v l):Calls Tryz.prog 125 #[v] w (GivesChgs w (readChgs l)):=by
 go_enter Tryz.func125,Tryz.ntmps125;go_wp2_with fail
 refine(takeC_any v l w hv).mono ?_;rintro x w1⟨u,rfl,aK,hb⟩;go_wp2
 go_ret2
 exact⟨u,rfl,aK,hb⟩
theorem drop_at{l:List UInt8}{p:Nat}(h:p<l.length):l.drop p=l.getD p 0::l.drop (p+1):=by
 rw[List.drop_eq_getElem_cons h];simp[List.getElem?_eq_getElem h]
theorem ofNat_toNat'(c:UInt8):UInt8.ofNat c.toNat=c:=by simp
theorem gnumF_fwd(l:List UInt8):∀(f i acc:Nat) (q:Int),(gnumF l f i acc q).2.2=0→
  ∃p b n:Nat,q=p∧gnumF l f i acc q=(((acc+n*128^i:Nat):Int),(b:Int),0)∧l.drop p=numL n++l.drop b∧(0<n∨i=0)
 |0,_,_,_,h=>by simp[gnumF] at h
 |f+1,i,acc,q,h=>by
  unfold gnumF at h⊢;split at h
  ·simp at h
  ·rename_i h0
   rw[if_neg h0];obtain⟨p,rfl⟩:=Int.eq_ofNat_of_zero_le (show 0≤q by omega);have hp:p<l.length:=by omega
   have hd:=drop_at hp;simp only[Int.toNat_natCast] at h⊢;generalize l.getD p 0=c at *;have hc:=c.toNat_lt;split at h
   ·rename_i h1
    rw[if_pos h1];obtain⟨p',b,n,hp',he,hdr,hn⟩:=gnumF_fwd l f (i+1) _ _ h;have ep:p'=p+1:=by omega
    subst ep;refine⟨p,b,c.toNat%128+128*n,rfl,?_,?_,.inl (by omega)⟩
    ·rw[he]
     congr 2
     rw[Nat.pow_succ,Nat.add_mul,Nat.add_assoc]
     congr 2
     rw[Nat.mul_comm (128^i) 128,←Nat.mul_assoc,Nat.mul_comm n 128]
    ·rw[hd,hdr,numL_ge (n:=c.toNat%128+128*n) (by omega)]
     have e1:(c.toNat%128+128*n)%128+128=c.toNat:=by omega
     have e2:(c.toNat%128+128*n)/128=n:=by omega
     rw[e1,e2,ofNat_toNat'];rfl
   ·rename_i h1
    rw[if_neg h1];split at h
    ·simp at h
    ·rename_i h2
     rw[if_neg h2];refine⟨p,p+1,c.toNat,rfl,?_,?_,by omega⟩
     ·rw[Nat.mod_eq_of_lt (by omega)]
      simp
     ·rw[hd,numL_lt (by omega),ofNat_toNat']
      rfl
theorem getNum_fwd{l:List UInt8}{q a b:Int}(h:getNum l q=(a,b,0)):∃p e n:Nat,q=p∧a=n∧b=e∧l.drop p=numL n++l.drop e:=by
 obtain⟨p,e,n,h1,h2,h3,_⟩:=gnumF_fwd l 8 0 0 q (by have:=congrArg (·.2.2) h;exact this);have h4:getNum l q=(((0+n*128^0:Nat):Int),(e:Int),0):=h2;rw[h] at h4;simp at h4;exact⟨p,e,n,h1,h4.1,h4.2,h3⟩
theorem getText_fwd{l s:List UInt8}{p most e:Int}(h:getText l p most=(s,e,0)):∃p' e':Nat,p=p'∧e=e'∧l.drop p'=textL s++l.drop e':=by
 unfold getText at h;obtain⟨a,b,c,hg⟩:∃a b c,getNum l p=(a,b,c):=⟨_,_,_,rfl⟩
 have fj:=getNum_spec l p;rw[hg] at h fj;simp only[ne_eq] at h fj;split at h
 ·rename_i hc
  simp at h;exact absurd h.2.2 hc
 ·rename_i hc
  have hc0:c=0:=by simpa using hc
  subst hc0;split at h
  ·simp at h
  ·split at h
   ·simp at h
   ·rename_i h1 h2
    obtain⟨p',e',n,rfl,rfl,rfl,hd⟩:=getNum_fwd hg;simp only[Int.toNat_natCast,Prod.mk.injEq,and_true] at h;obtain⟨rfl,rfl⟩:=h;refine⟨p',e'+n,rfl,by omega,?_⟩;have hlen:((l.drop e').take n).length=n:=by rw[List.length_take,List.length_drop];omega
    unfold textL;rw[hlen,hd,List.append_assoc,←List.drop_drop,List.take_append_drop]
def chgL(c:Chg):List UInt8:=textL c.1.data.toList++if c.2.2 then [1] else 0::textL c.2.1
def chgsB(cs:List Chg):List UInt8:=cs.flatMap chgL
def chgsL(cs:List Chg):List UInt8:=numL cs.length++chgsB cs
theorem getChange_fwd{l k v:List UInt8}{g:Bool}{p e:Int}(h:getChange l p=(k,v,g,e,0)):∃p' e':Nat,p=p'∧e=e'∧l.drop p'=(textL k++if g then [1] else 0::textL v)++l.drop e':=by
 unfold getChange at h;obtain⟨s1,e1,c1,h1⟩:∃a b c,getText l p 30=(a,b,c):=⟨_,_,_,rfl⟩
 rw[h1] at h;simp only[ne_eq] at h;obtain⟨s2,e2,c2,h2⟩:∃a b c,getText l (e1+1) 150=(a,b,c):=⟨_,_,_,rfl⟩
 rw[h2] at h;simp only at h;split at h
 ·rename_i hc;simp at h;exact absurd h.2.2.2.2 hc
 ·rename_i hc
  have z1:c1=0:=by simpa using hc
  subst z1;obtain⟨p',q',rfl,rfl,hd1⟩:=getText_fwd h1;simp only[Int.toNat_natCast] at h;split at h
  ·simp at h
  ·rename_i hlt
   have hq:q'<l.length:=by omega
   have FZ:=drop_at hq;split at h
   ·rename_i hone
    simp at h;obtain⟨rfl,rfl,rfl,rfl⟩:=h;refine⟨p',q'+1,rfl,by omega,?_⟩;rw[hd1,FZ,hone];simp
   ·split at h
    ·simp at h
    ·rename_i hz
     have hz':l.getD q' 0=0:=by simpa using hz
     split at h
     ·rename_i hc2;simp at h;exact absurd h.2.2.2.2 hc2
     ·rename_i hc2
      have z2:c2=0:=by simpa using hc2
      subst z2;simp at h;obtain⟨rfl,rfl,rfl,rfl⟩:=h;obtain⟨p2,q2,hp2,rfl,hd2⟩:=getText_fwd h2;have:p2=q'+1:=by omega
      subst this;refine⟨p',q2,rfl,rfl,?_⟩;rw[hd1,FZ,hz',hd2];simp
theorem chgsF_fwd(l:List UInt8):∀(f p:Nat) (acc cs:List Chg),chgsF l f (p:Int) acc=(cs,0)→∃new,cs=acc++new∧new.length=f∧l.drop p=chgsB new
 |0,p,acc,rs,h=>by
  unfold chgsF at h;split at h
  ·simp at h
  ·rename_i h0
   simp at h;exact⟨[],by simp[h],rfl,by rw[List.drop_eq_nil_of_le (by omega)];rfl⟩
 |f+1,p,acc,rs,h=>by
  unfold chgsF at h;obtain⟨k,v,g,e,c,hr⟩:∃k v g e c,getChange l p=(k,v,g,e,c):=⟨_,_,_,_,_,rfl⟩
  rw[hr] at h;simp only[ne_eq] at h;split at h
  ·rename_i hc;simp at h;exact absurd h.2 hc
  ·rename_i hc
   have z:c=0:=by simpa using hc
   subst z;obtain⟨p',e',hp,rfl,hd⟩:=getChange_fwd hr;have:p'=p:=by omega
   subst this;obtain⟨new,h1,h2,h3⟩:=chgsF_fwd l f e' _ rs h;refine⟨(⟨k.toArray⟩,v,g)::new,by rw[h1];simp,by simp[h2],?_⟩;rw[hd,h3];simp[chgsB,chgL]
theorem readChgs_fwd{l:List UInt8}{cs:List Chg}(h:readChgs l=(cs,0)):chgsL cs=l:=by
 unfold readChgs at h;obtain⟨a,b,c,hg⟩:∃a b c,getNum l 0=(a,b,c):=⟨_,_,_,rfl⟩
 rw[hg] at h;simp only[ne_eq] at h;split at h
 ·rename_i hc;simp at h;exact absurd h.2 hc
 ·rename_i hc
  have z:c=0:=by simpa using hc
  subst z;split at h
  ·simp at h
  ·obtain⟨p,e,n,hp,rfl,rfl,hd⟩:=getNum_fwd hg
   have:p=0:=by omega
   subst this;rw[Int.toNat_natCast] at h;obtain⟨new,h1,h2,h3⟩:=chgsF_fwd l n e _ cs h;have h1':cs=new:=by simpa using h1
   subst h1';unfold chgsL;rw[h2,←h3,←hd,List.drop_zero]
theorem change_any(k:ByteArray)(v:Value)(l:List UInt8)(gn:Bool)(hk:k.size≤1000000000)(hl:l.length≤1000000000)(w:World)(hv:RB w v l):
  Calls Tryz.prog 143 #[.agg #[.string k,v,.bool gn]] w (NewB 5 w (chgL (k,l,gn))):=by
 have hkl:=textL_len (l:=k.data.toList) (by rw[Array.length_toList];exact hk);have htl:=textL_len (l:=l) hl;have hsz:(⟨l.toArray⟩:ByteArray).size≤1000000000:=by show l.toArray.size≤_;simpa using hl
 have ig:=qH hsz;have HV:=qH hv;obtain⟨A,c,rfl,_,h2,_⟩:=hv;simp only[maxLen] at h2;clear hsz;cases gn
 ·have E:chgL (k,l,false)=(textL k.data.toList++ [0])++textL l:=by simp[chgL]
  have HE:=qH E;clear E;go_enter Tryz.func143,Tryz.ntmps143;go_wp2_with fail
  obtain⟨wb,hwb⟩:∃wb,wb=w.alloc (.cells #[.string k,.slice A l.length c,.bool false] 76):=⟨_,rfl⟩
  rw[←hwb];have ug:=qH (show Below w.heap.size w wb by rw[hwb];exact(Below.refl _ _).alloc (Nat.le_refl _) _);have jO:=qH (show w.heap.size<wb.heap.size by rw[hwb];simp);have mT:=qH (show wb.cell? ⟨w.heap.size,0,none⟩=some (.string k) by rw[hwb];simp);have Ht:=qH (show wb.cell? ⟨w.heap.size,1,none⟩=some (.slice A l.length c) by rw[hwb];simp);have DZ:=qH (show wb.cell? ⟨w.heap.size,2,none⟩=some (.bool false) by rw[hwb];simp);have JS:=qH (show RB wb (.slice A l.length c) l by rw[hwb];exact HV.out.alloc _);clear hwb;refine(text_any k hk _).mono ?_;rintro e w1⟨v1,rfl,hown,ad⟩;obtain⟨A1,c1,rfl,_⟩:=own_shape hown;have Jo:=(ad.cell (p:=⟨w.heap.size,2,none⟩) jO.out).trans DZ.out;have iO:=qH hown;have an:=qH ad;clear hown ad;go_wp2;refine wp_region_held_drew (S:=fun X=>Below wb.heap.size wb X) (by kernel_rfl) an.out.drew (fun hHeld=>?_);refine tkC 0 ?_;refine tkC 3 ?_;refine tkA 4 (v:=?_) ?_ ?_;rotate_left
  ·intro X hSw;have hq:=(hSw.cell (p:=⟨w.heap.size,1,none⟩) jO.out).trans Ht.out;go_simp;try (with_reducible rfl)
  try simp only[Act.put,zA,zB,zC]
  refine tkA 5 (v:=?_) ?_ ?_;rotate_left
  ·intro X hSw;have hq:=str22 (JS.out.below hSw);go_simp;try (with_reducible rfl)
  try simp only[Act.put,zA,zB,zC]
  refine rdA (rs:= [1]) ?_;refine arC (fun K hK=>?_);go_simp;refine gen_allocD ?_;intro w2 hw2 bg;have ac:=an.out.trans (bg.mono an.out.size);refine hK.out _ _ ?_ (fun _=>?_)
  ·exact ac
  clear hK K hHeld;try simp only[Act.put,zA,zB,zC]
  have hHeld:=ac;clear ac;have hz:RB w2 (.slice (some ⟨w1.heap.size,0,none⟩) 1 1) [0]:=by rw[hw2];exact(RB.lit w1 5 (0,0) [0] _ rfl 1 rfl (by decide)).drew
  have gD:=own_below iO.out bg;clear hw2;refine rdA (rs:= [2]) ?_;refine arC (fun K hK=>?_);refine step_own (by rfl) (.tmp 12) (.tmp 13) 46 46 (by rfl) wb.heap.size 5 (.int .u8 0) 1 1 Tryz.underlying46 info5 rfl (by rfl) gD (by rfl) (hz.src Tryz.underlying46) hHeld (Nat.le_refl _) (by unfold maxLen;simp;omega) (by simp;omega) hHeld.size ?_;intro v4 w3 am aA _;have ac:=aA;refine hK.out _ _ ?_ (fun _=>?_)
  ·exact ac
  clear hK K hHeld;try simp only[Act.put,zA,zB,zC]
  have hHeld:=ac;clear ac;have xe:=am;clear am;obtain⟨A4,c4,rfl,_⟩:=own_shape xe;refine rdA (rs:= [6]) ?_;refine arC (fun K hK=>?_);go_simp;refine(text_any _ ig.out _).mono ?_;rintro x w4⟨v5,rfl,ao,it⟩;try (go_wp2_with fail)
  have ac:=hHeld.trans (it.mono hHeld.size);refine hK.out _ _ ?_ (fun _=>?_)
  ·exact ac
  clear hK K hHeld;try simp only[Act.put,zA,zB,zC]
  have hHeld:=ac;clear ac;have C5:=own_below xe it;refine rdA (rs:= [7]) ?_;refine arC (fun K hK=>?_);refine step_own (by rfl) (.tmp 14) (.tmp 18) 46 46 (by rfl) wb.heap.size 5 (.int .u8 0) 1 1 Tryz.underlying46 info5 rfl (by rfl) C5 (by rfl) ((RB.own ao).src Tryz.underlying46) hHeld (Nat.le_refl _) (by unfold maxLen;simp;omega) (by simp;omega) hHeld.size ?_;intro v6 w5 bI bX _;have ac:=bX;refine hK.out _ _ ?_ (fun _=>?_)
  ·exact ac
  clear hK K hHeld;try simp only[Act.put,zA,zB,zC]
  have hHeld:=ac;clear ac;refine tkC 8 ?_;refine wpAnyH_done (by kernel_rfl) ?_ _;go_wp2;go_ret;refine⟨_,rfl,?_,ug.out.trans (hHeld.mono ug.out.size)⟩;rw[HE.out];exact own_base (own_cat (l:=textL k.data.toList++ [0]) (m:=textL l) (by rw[List.length_append,bvs_append];exact bI)) ug.out.size
 ·have E:chgL (k,l,true)=textL k.data.toList++ [1]:=by simp[chgL]
  have HE:=qH E;clear E;go_enter Tryz.func143,Tryz.ntmps143;go_wp2_with fail
  obtain⟨wb,hwb⟩:∃wb,wb=w.alloc (.cells #[.string k,.slice A l.length c,.bool true] 76):=⟨_,rfl⟩
  rw[←hwb];have ug:=qH (show Below w.heap.size w wb by rw[hwb];exact(Below.refl _ _).alloc (Nat.le_refl _) _);have jO:=qH (show w.heap.size<wb.heap.size by rw[hwb];simp);have DZ:=qH (show wb.cell? ⟨w.heap.size,2,none⟩=some (.bool true) by rw[hwb];simp);clear hwb;refine(text_any k hk _).mono ?_;rintro e w1⟨v1,rfl,hown,ad⟩;have Jo:=(ad.cell (p:=⟨w.heap.size,2,none⟩) jO.out).trans DZ.out;have iO:=qH hown;have an:=qH ad;clear hown ad;go_wp2_with (at_builtin;refine wpList_own rfl (.tmp 9) (.tmp 10) 46 46 rfl wb.heap.size 5 (.int .u8 0) 1 1 Tryz.underlying46 info5 rfl rfl (iO.out.alloc _) rfl (src_one w1 Tryz.underlying46 5 _ rfl) (an.out.alloc an.out.size _) (Nat.le_refl _) ?_ ?_ ?_ ?_)
  ·unfold maxLen;omega
  ·omega
  ·have:=an.out.size;simp;omega
  ·intro v2 w2 hown2 ag _
   go_wp2;go_ret;refine⟨v2,rfl,?_,ug.out.trans (ag.mono ug.out.size)⟩;rw[HE.out];exact own_base (own_cat (l:=textL k.data.toList) (m:= [1]) hown2) ug.out.size
theorem chgsB_take{rs:List Chg}{k:Nat}(h:k<rs.length):chgsB (rs.take (k+1))=chgsB (rs.take k)++chgL rs[k]:=by
 unfold chgsB;rw[List.take_succ_eq_append_getElem h,List.flatMap_append];simp
theorem chgsB_le(rs:List Chg)(k:Nat):(chgsB (rs.take k)).length≤(chgsB rs).length:=by
 conv=>rhs;rw[←List.take_append_drop k rs]
 unfold chgsB;rw[List.flatMap_append,List.length_append];omega
theorem chgL_len(c:Chg):c.1.data.toList.length≤(chgL c).length:=by
 unfold chgL textL;simp only[List.length_append];omega
theorem listC_any(v:Value)(rs:List Chg)(hbig:(chgsB rs).length≤1000000000)(hn:rs.length≤1000000000)(hvb:∀r∈rs,r.2.1.length≤1000000000)(w:World)(hv:RC w v rs):
  Calls Tryz.prog 142 #[v,.func (Fn.func 143) #[] #[]] w (NewB 5 w (chgsL rs)):=by
 obtain⟨A,c,rfl,hlc,hc,hcells⟩:=hv;have HC:=qH hcells;have ED:=qH hvb;clear hvb;clear hcells;unfold maxLen at hc;go_enter Tryz.func142,Tryz.ntmps142;go_wp2_with fail
 refine(num_any _ _).mono ?_;rintro e w1⟨vn,rfl,hown,ad⟩;have e1:clip (rs.length:Int)=rs.length:=by unfold clip;omega
 rw[e1] at hown;have h8:=numL_len8 (n:=rs.length) (by omega);clear e1;go_wp2
 go_loopw [5,13] (fun b i wr=>∃k:Nat,k≤rs.length∧i= .int .i64 k∧wr.ownsRow w.heap.size 5 1 b (numL rs.length++chgsB (rs.take k)).length (bvs (numL rs.length++chgsB (rs.take k)))∧Below w.heap.size w wr)
  (fun _ i _=>rs.length-(intOf i).toNat)
 case atStart=>exact⟨0,Nat.zero_le _,rfl,by simpa [chgsB] using hown,ad⟩
 case round=>
  clear hown ad;obtain⟨k,hk,rfl,hown,ad⟩:=hrel;by_cases hlt:k<rs.length
  ·obtain⟨b,off,rfl,hb,hcell⟩:∃b off,A=some ⟨b,off,none⟩∧b<w.heap.size∧
     ∀j (h:j<rs.length),w.cell? ⟨b,off+j*3,none⟩=some (.string rs[j].1)∧(∃u,w.cell? ⟨b,off+j*3+1,none⟩=some u∧RB w u rs[j].2.1)∧w.cell? ⟨b,off+j*3+2,none⟩=some (.bool rs[j].2.2):=by
    rcases HC.out with rfl|h
    ·simp at hlt
    ·exact h
   obtain⟨hc0,⟨u,hc1,bi⟩,hc2⟩:=hcell k hlt;have dt:=(ad.cell (p:=⟨b,off+k*3,none⟩) hb).trans hc0;have hk1:=(ad.cell (p:=⟨b,off+k*3+1,none⟩) hb).trans hc1;have hk2:=(ad.cell (p:=⟨b,off+k*3+2,none⟩) hb).trans hc2;have lO:=bi.below ad;have htk:=chgsB_take hlt;have hle:=chgsB_le rs (k+1);have hrl:=chgL_len rs[k];have ib:=ED.out rs[k] (List.getElem_mem hlt);rw[htk,List.length_append] at hle;generalize rs[k]=r at *;have HT:=qH htk;have hsz:=ad.size;clear hcell hc0 hc1 hc2 htk HC;obtain⟨A2,c2,rfl⟩:∃A2 c2,u= .slice A2 r.2.1.length c2:=by
    obtain⟨A2,c2,h,_⟩:=bi;exact⟨A2,c2,h⟩
   have hkl:r.1.size≤1000000000:=by rw[Array.length_toList] at hrl;show r.1.data.size≤_;omega
   have hcall:∀W,RB W (.slice A2 r.2.1.length c2) r.2.1→Calls Tryz.prog 143 #[.agg #[.string r.1,.slice A2 r.2.1.length c2,.bool r.2.2]] W (NewB 5 W (chgL r)):=fun W hW=>change_any r.1 (.slice A2 r.2.1.length c2) r.2.1 r.2.2 hkl (by omega) W hW
   have HL:=qH hcall;clear hcall bi hkl;go_wp2_with fail
   refine(HL.out _ ?_).mono ?_
   ·exact lO.alloc _
   rintro e w2⟨v2,rfl,hown2,ag⟩;have hb3:Below w.heap.size w w2:=(ad.alloc hsz _).trans (ag.mono (by simp;omega));have am:=own_below (hown.alloc _) ag;clear hown ad lO dt hk1 hk2;go_wp2_with (at_builtin;refine wpList_own rfl (.tmp 17) (.tmp 20) 46 46 rfl w.heap.size 5 (.int .u8 0) 1 1 Tryz.underlying46 info5 rfl rfl am rfl ((RB.own hown2).src Tryz.underlying46) hb3 (Nat.le_refl _) ?_ ?_ ?_ ?_)
   ·rw[List.length_append];unfold maxLen;omega
   ·rw[List.length_append];omega
   ·exact hb3.size
   ·intro v' w4 hown' hbel' _
    go_wp2;go_roundw
    case rel=>exact⟨k+1,by omega,by go_num,by rw[HT.out,←List.append_assoc];exact own_cat (by rw[List.length_append];exact hown'),hbel'⟩
    case measure=>simp[intOf];omega
  ·go_wp2
   go_ret;have:k=rs.length:=by omega
   subst this;rw[List.take_length] at hown;exact⟨_,rfl,hown,ad⟩
theorem changes_any(v:Value)(rs:List Chg)(hbig:(chgsB rs).length≤1000000000)(hn:rs.length≤1000000000)(hvb:∀r∈rs,r.2.1.length≤1000000000)(w:World)(hv:RC w v rs):
  Calls Tryz.prog 109 #[v] w (NewB 5 w (chgsL rs)):=by
 go_enter Tryz.func109,Tryz.ntmps109;go_wp2_with fail
 refine(listC_any v rs hbig hn hvb w hv).mono ?_;rintro e w1⟨v1,rfl,hown,ad⟩;go_wp2;go_ret;exact⟨v1,rfl,hown,ad⟩
def chgOf(r:ByteArray×List UInt8):Chg:=if r.2.length%4=0 then (r.1,[],true) else (r.1,r.2,false)
def GivesCL(w:World)(rs:List Chg)(e:Ending)(w':World):Prop:=∃u,e= .returned u∧OC 5 76 w' w.heap.size u rs∧Below w.heap.size w w'
theorem own_drew{w:World}{base:Nat}{e:TypeId}{size:Nat}{v:Value}{n:Nat}{xs:List Value}(h:w.ownsRow base e size v n xs):w.drew.ownsRow base e size v n xs:=h
theorem or_both{e:TypeId}{w:World}{base:Nat}{v:Value}{rs:List (ByteArray×List UInt8)}(h:OR e 78 w base v rs){j:Nat}(hj:j<rs.length):
  ∃g cap u,v= .slice (some ⟨g,0,none⟩) rs.length cap∧rs.length≤cap∧cap≤maxLen∧g<w.heap.size∧w.cell? ⟨g,j*2,none⟩=some (.string rs[j].1)∧w.cell? ⟨g,j*2+1,none⟩=some u∧FB e w base u rs[j].2:=by
 obtain⟨us,rfl,ho,hf⟩:=h;have hj':j<us.length:=by simpa using hj
 rcases ho.2 with ⟨_,h0⟩|⟨g,cap,cur,rfl,hb,hg,hnc,hcm,hcs,ht⟩
 ·omega
 ·have h1:=rowCells_get us j hj'
  have hlen:=rowCells_length us;have hcell:∀i,i<us.length*2→w.cell? ⟨g,i,none⟩=(rowCells us)[i]? :=by
   intro i hi;rw[cell_of_row _ g i cur 78 (0,0) hg,←ht,List.getElem?_take,if_pos (by omega),Array.getElem?_toList]
  refine⟨g,cap,us[j].2.2,by simp,by simpa using hnc,hcm,(Array.getElem?_eq_some_iff.1 hg).1,?_,?_,?_⟩
  ·rw[hcell _ (by omega),h1.1];simp
  ·rw[hcell _ (by omega),h1.2]
  ·have:=hf us[j] (List.getElem_mem hj')
   simpa using this
theorem changeList_any(v:Value)(l:List UInt8)(n:Nat)(hn:n≤100)(w:World)(hv:RB w v l)(hl:l.length≤140737488351232):
  Calls Tryz.prog 23 #[v,.int .i64 n] w (GivesCL w ((rowsAt l (nrows l n)).map chgOf)):=by
 have hcall:=rowList_any v l n hn w hv hl;have hlen:(rowsAt l (nrows l n)).length≤100:=by rw[rowsAt_length];unfold nrows;omega
 generalize rowsAt l (nrows l n)=rs at *;have HC:=qH hcall;obtain⟨A,c,rfl,h1,h2,_⟩:=hv;unfold maxLen at h2;clear hcall;go_enter Tryz.func23,Tryz.ntmps23;go_wp2_with fail
 refine HC.out.mono ?_;rintro e w2⟨v2,rfl,aK,hb2⟩;have HR:=qH aK;have ae:=qH hb2;obtain⟨A2,c2,rfl⟩:=or_shape aK;clear aK hb2 HC;go_wp2
 go_loopw [5,7] (fun b i wr=>∃(k:Nat) (us:List (Chg×Value)),k≤rs.length∧i= .int .i64 k∧us.map (·.1)=(rs.take k).map chgOf∧wr.ownsRow w2.heap.size 76 3 b us.length (chCells us)∧(∀x∈us,FB 5 w2 w.heap.size x.2 x.1.2.1)∧Below w2.heap.size w2 wr)
  (fun _ i _=>rs.length-(intOf i).toNat)
 case atStart=>exact⟨0,[],Nat.zero_le _,rfl,rfl,World.ownsRow_nil _ _ _ _,fun _ h=>(by cases h),Below.refl _ _⟩
 case round=>
  obtain⟨k,us,hk,rfl,ah,hown,bC,ad⟩:=hrel;by_cases hlt:k<rs.length
  ·obtain⟨g,cap,u,hsh,hcl,hcm,hgl,dt,hk1,bB⟩:=or_both HR.out hlt
   have hlk:us.length=k:=by have:=congrArg List.length ah;simp only[List.length_map,List.length_take] at this;omega
   have htk:(rs.take (k+1)).map chgOf=(rs.take k).map chgOf++ [chgOf rs[k]]:=by rw[List.take_succ_eq_append_getElem hlt,List.map_append];rfl
   obtain⟨⟨key,val⟩,hr⟩:∃r,rs[k]=r:=⟨_,rfl⟩
   rw[hr] at dt bB htk;simp only at dt bB;simp only[Value.slice.injEq] at hsh;obtain⟨rfl,_,rfl⟩:=hsh;obtain⟨Au,cu,rfl⟩:=bB.shape;have nn:=qH htk;have ce:=qH ah;have Ae:=qH hlk;have ga:=qH bC;have fi:=qH bB;have HO:=qH hown;have HB:=qH ad;obtain⟨A3,c3,rfl,hc3⟩:=own_shape hown;have b1:(0:Int)≤(k:Int):=by omega
   have b2:(k:Int)<(rs.length:Int):=by omega
   unfold maxLen at hcm;have hval:val.length≤9223372036854775807:=by obtain⟨A',c',h,h',h'',_⟩:=bB.rb;unfold maxLen at h'';omega
   clear htk ah hlk bC bB hown ad hr;go_wp2;refine wp_region_held_drew (S:=fun X=>Below w2.heap.size w2 X) (by kernel_rfl) HB.out.drew (fun hHeld=>?_);have hown0:=own_drew HO.out;generalize wr.drew=w0 at *;refine tkC 0 ?_;refine tkC 1 ?_;refine tkC 2 ?_;refine tkC 3 ?_;refine tkA 4 (v:=?_) ?_ ?_;rotate_left
   ·intro X hSw;have hq:=(hSw.cell (p:=⟨g,k*2,none⟩) hgl).trans dt;go_simp;try (with_reducible rfl)
   try simp only[Act.put,zA,zB,zC]
   refine tkC 5 ?_;refine tkC 6 ?_;refine tkC 7 ?_;refine tkC 8 ?_;refine tkA 9 (v:=?_) ?_ ?_;rotate_left
   ·intro X hSw;have hq:=(hSw.cell (p:=⟨g,k*2+1,none⟩) hgl).trans hk1;go_simp;try (with_reducible rfl)
   try simp only[Act.put,zA,zB,zC]
   refine tkC 10 ?_;refine rdA (rs:= [11]) ?_;refine arC (fun K hK=>?_);go_simp;have mD:=hHeld.alloc hHeld.size (Obj.cells #[.string ⟨#[]⟩,.slice none 0 0,.bool false] 76);refine hK.out _ _ ?_ (fun _=>?_)
   ·exact mD
   clear hK K;try simp only[Act.put,zA,zB,zC]
   refine rdA (rs:= [12]) ?_;refine arC (fun K hK=>?_);go_simp;refine hK.out _ _ ?_ (fun _=>?_)
   ·exact hHeld.alloc hHeld.size _
   clear hK K mD;try simp only[Act.put,zA,zB,zC]
   refine wpAnyH_done (by kernel_rfl) ?_ _;by_cases h4:val.length%4=0
   ·have hch:chgOf (key,val)=(key,[],true):=by unfold chgOf;exact if_pos h4
    have IY:(val.length:Int)%4=0:=by omega
    have G9:(val.length:Int).tmod 4=0:=by rw[Int.tmod_eq_emod_of_nonneg (by omega)];omega
    clear h4;have rY:=hHeld.alloc hHeld.size (Obj.cells #[.string key,.slice none 0 0,.bool true] 76);have tW:=rY.alloc rY.size (Obj.cells #[.string key,.slice none 0 0,.bool true] 76);have ho:=own_below (own_below hown0 ((Below.refl _ _).alloc (Nat.le_refl _) (Obj.cells #[.string key,.slice none 0 0,.bool true] 76))) ((Below.refl _ _).alloc (Nat.le_refl _) (Obj.cells #[.string key,.slice none 0 0,.bool true] 76));have bm:=ae.out.size;clear hHeld hown0;go_wp2_with (at_builtin;refine wpList_own rfl (.tmp 37) (.tmp 39) 56 56 rfl w2.heap.size 76 (.agg #[.string ⟨#[]⟩,.slice none 0 0,.bool false]) 3 48 Tryz.underlying56 info76 rfl rfl ho rfl (src_three _ (by simp) Tryz.underlying56 76 _ _ _ rfl rfl rfl) tW (Nat.le_refl _) ?_ ?_ ?_ ?_)
    ·have:=Ae.out;unfold maxLen;omega
    ·have:=Ae.out;omega
    ·exact tW.size
    intro v' w4 ho' hb4 hg4;have ai:=qH hb4;have jp:=qH ho';clear ho ho' hb4 hg4 rY tW;go_wp2;go_roundw
    case rel=>
     refine⟨k+1,us++ [((key,[],true),.slice none 0 0)],by omega,by go_num,?_,?_,?_,ai.out⟩
     ·rw[nn.out,List.map_append,ce.out,hch];rfl
     ·have ho':=jp.out
      unfold chCells at ho'⊢;rw[List.length_append,List.flatMap_append];exact ho'
     ·intro x hx
      rcases List.mem_append.1 hx with hx|hx
      ·exact ga.out x hx
      ·simp only[List.mem_singleton] at hx
       subst hx;exact .inl ⟨rfl,rfl⟩
    case measure=>simp[intOf];omega
   ·have hch:chgOf (key,val)=(key,val,false):=by unfold chgOf;exact if_neg h4
    have IY:(val.length:Int)%4≠0:=by omega
    have G9:(val.length:Int).tmod 4≠0:=by rw[Int.tmod_eq_emod_of_nonneg (by omega)];omega
    clear h4;have rY:=hHeld.alloc hHeld.size (Obj.cells #[.string key,.slice Au val.length cu,.bool false] 76);have tW:=rY.alloc rY.size (Obj.cells #[.string key,.slice Au val.length cu,.bool false] 76);have ho:=own_below (own_below hown0 ((Below.refl _ _).alloc (Nat.le_refl _) (Obj.cells #[.string key,.slice Au val.length cu,.bool false] 76))) ((Below.refl _ _).alloc (Nat.le_refl _) (Obj.cells #[.string key,.slice Au val.length cu,.bool false] 76));have bm:=ae.out.size;clear hHeld hown0;go_wp2_with (at_builtin;refine wpList_own rfl (.tmp 37) (.tmp 39) 56 56 rfl w2.heap.size 76 (.agg #[.string ⟨#[]⟩,.slice none 0 0,.bool false]) 3 48 Tryz.underlying56 info76 rfl rfl ho rfl (src_three _ (by simp) Tryz.underlying56 76 _ _ _ rfl rfl rfl) tW (Nat.le_refl _) ?_ ?_ ?_ ?_)
    ·have:=Ae.out;unfold maxLen;omega
    ·have:=Ae.out;omega
    ·exact tW.size
    intro v' w4 ho' hb4 hg4;have ai:=qH hb4;have jp:=qH ho';clear ho ho' hb4 hg4 rY tW;go_wp2;go_roundw
    case rel=>
     refine⟨k+1,us++ [((key,val,false),.slice Au val.length cu)],by omega,by go_num,?_,?_,?_,ai.out⟩
     ·rw[nn.out,List.map_append,ce.out,hch];rfl
     ·have ho':=jp.out
      unfold chCells at ho'⊢;rw[List.length_append,List.flatMap_append];exact ho'
     ·intro x hx
      rcases List.mem_append.1 hx with hx|hx
      ·exact ga.out x hx
      ·simp only[List.mem_singleton] at hx
       subst hx;exact fi.out
    case measure=>simp[intOf];omega
  ·have e:k=rs.length:=by omega
   subst e;rw[List.take_length] at ah;go_wp2;go_ret;refine⟨_,rfl,⟨us,ah,own_base hown ae.out.size,fun x hx=>(bC x hx).below ad⟩,ae.out.trans (ad.mono ae.out.size)⟩
theorem size_list(s:ByteArray):s.data.toList.length=s.size:=by rw[Array.length_toList];rfl
def sizesC(rs:List Chg):Nat:=(rs.map fun r=>r.1.size+r.2.1.length).sum
theorem chgL_few(c:Chg)(h1:c.1.size≤1000000000)(h2:c.2.1.length≤1000000000):(chgL c).length≤18+(c.1.size+c.2.1.length):=by
 have h3:=size_list c.1;have h4:=numL_len8 (n:=c.1.data.toList.length) (by omega);have h5:=numL_len8 (n:=c.2.1.length) (by omega);unfold chgL textL;split <;>simp only[List.length_append,List.length_cons,List.length_nil]<;>omega
theorem chgsB_few:∀(rs:List Chg),sizesC rs≤90000→(chgsB rs).length≤18*rs.length+sizesC rs∧∀r∈rs,r.2.1.length≤1000000000
 | [],_=>by simp[chgsB,sizesC]
 |r::rs,h=>by
  have e:sizesC (r::rs)=r.1.size+r.2.1.length+sizesC rs:=by simp[sizesC]
  obtain⟨ih,ih2⟩:=chgsB_few rs (by omega);have h2:=chgL_few r (by omega) (by omega);have e2:chgsB (r::rs)=chgL r++chgsB rs:=by unfold chgsB;rw[List.flatMap_cons]
  refine⟨?_,fun x hx=>?_⟩
  ·rw[e2,e,List.length_append,List.length_cons]
   omega
  ·rcases List.mem_cons.1 hx with rfl|hx
   ·omega
   ·exact ih2 x hx
theorem madeC_sizes(c:List UInt8):∀k,sizesC ((rowsAt c k).map chgOf)≤200*k
 |0=>by simp[rowsAt,sizesC]
 |k+1=>by
  have ih:=madeC_sizes c k;rw[rowsAt_succ,List.map_append];unfold sizesC at ih⊢;rw[List.map_append,List.sum_append];have h1:rlen (c.getD (2*k) 0) (c.getD (2*k+1) 0)≤150:=by unfold rlen;split <;>omega
  have h2:((chgOf (rowOf (c.getD (2*k) 0) (c.getD (2*k+1) 0))).1.size+(chgOf (rowOf (c.getD (2*k) 0) (c.getD (2*k+1) 0))).2.1.length)≤152:=by
   unfold chgOf;have h3:(rowOf (c.getD (2*k) 0) (c.getD (2*k+1) 0)).1.size=2:=rfl;have h4:(rowOf (c.getD (2*k) 0) (c.getD (2*k+1) 0)).2.length≤150:=by unfold rowOf;simp only[fill_length];exact h1
   split
   ·simp only[List.length_nil];omega
   ·simp only;omega
  simp only[List.map_cons,List.map_nil,List.sum_cons,List.sum_nil];omega
open Go.RowKit Go.Rst Go.Crc
def wordL(n:Nat):List UInt8:= [UInt8.ofNat (n/16777216),UInt8.ofNat (n/65536),UInt8.ofNat (n/256),UInt8.ofNat n]
theorem wordL_length(n:Nat):(wordL n).length=4:=rfl
def pad60(l:List UInt8):List UInt8:=l++List.replicate (60-l.length) 0
def headL(epoch n i of:Nat)(b:List UInt8):List UInt8:=wordL epoch++wordL n++ [UInt8.ofNat i,UInt8.ofNat of,UInt8.ofNat b.length]++b
def partL(epoch n i of:Nat)(b:List UInt8):List UInt8:=sealL (pad60 (headL epoch n i of b))
theorem headL_length(epoch n i of:Nat)(b:List UInt8):(headL epoch n i of b).length=11+b.length:=by simp[headL,wordL];omega
theorem partL_length{epoch n i of:Nat}{b:List UInt8}(h:b.length≤49):(partL epoch n i of b).length=64:=by
 unfold partL pad60;rw[sealL_length,List.length_append,List.length_replicate,headL_length];omega
theorem pad_more{l:List UInt8}{j:Nat}:l++List.replicate (j+1) 0=(l++List.replicate j 0)++ [(0:UInt8)]:=by rw[List.replicate_succ',List.append_assoc]
def ofL(b:List UInt8):Nat:=(b.length+48)/49
def pcL(b:List UInt8)(i:Nat):List UInt8:=(b.drop (49*i)).take 49
theorem pcL_length(b:List UInt8)(i:Nat):(pcL b i).length=min 49 (b.length-49*i):=by unfold pcL;rw[List.length_take,List.length_drop]
def secL(epoch n:Nat)(b:List UInt8)(k:Nat):List (List UInt8):=(List.range k).map fun i=>partL epoch n i (ofL b) (pcL b i)
theorem secL_succ(epoch n:Nat)(b:List UInt8)(k:Nat):secL epoch n b (k+1)=secL epoch n b k++ [partL epoch n k (ofL b) (pcL b k)]:=by simp[secL,List.range_succ]
theorem secL_length(epoch n:Nat)(b:List UInt8)(k:Nat):(secL epoch n b k).length=k:=by simp[secL]
def partsL(epoch n:Int)(cs:List Chg):List (List UInt8)×Bool:=
 if epoch<0∨1073741824<epoch∨n<0∨1073741824<n then ([],false)
 else if 200<ofL (chgsL cs) then ([],false) else (secL epoch.toNat n.toNat (chgsL cs) (ofL (chgsL cs)),true)
def vlenP(v:Value):Nat:=match v with| .slice _ n _=>n|_=>0
theorem word_cells{n:Nat}:#[Value.int .u8 ((n:Int)/16777216%256),.int .u8 ((n:Int)/65536%256),.int .u8 ((n:Int)/256%256),.int .u8 ((n:Int)%256)]=(bvs (wordL n)).toArray:=by
 unfold wordL bvs bv;simp only[List.map_cons,List.map_nil,UInt8.toNat_ofNat'];simp
theorem word_any(n:Nat)(hn:n≤1073741824000)(w:World):Calls Tryz.prog 141 #[.int .i64 n] w (NewB 5 w (wordL n)):=by
 go_enter Tryz.func141,Tryz.ntmps141;go_wp2;go_ret;exact⟨_,rfl,own_lit word_cells rfl (by decide),(Below.refl _ _).alloc (Nat.le_refl _) _⟩
theorem three_cells{i o l:Nat}(hl:l≤255):#[Value.int .u8 ((i:Int)%256),.int .u8 ((o:Int)%256),.int .u8 (l:Int)]=(bvs [UInt8.ofNat i,UInt8.ofNat o,UInt8.ofNat l]).toArray:=by
 unfold bvs bv;simp only[List.map_cons,List.map_nil,UInt8.toNat_ofNat'];simp;omega
theorem three_own{i o l:Nat}{cs:Array Value}(h:cs=(bvs [UInt8.ofNat i,UInt8.ofNat o,UInt8.ofNat l]).toArray)(w:World)(e:TypeId):(w.alloc (.cells cs e)).ownsRow w.heap.size e 1 (.slice (some ⟨w.heap.size,0,none⟩) 3 3) [UInt8.ofNat i,UInt8.ofNat o,UInt8.ofNat l].length (bvs [UInt8.ofNat i,UInt8.ofNat o,UInt8.ofNat l]):=
 own_lit h rfl (by decide)
theorem part_any(epoch n i of:Nat)(v:Value)(b:List UInt8)(he:epoch≤1073741824000)(hn:n≤1073741824000)(w:World)(hv:RB w v b)(hb:b.length≤49):
  Calls Tryz.prog 106 #[.int .i64 epoch,.int .i64 n,.int .i64 i,.int .i64 of,v] w (NewB 5 w (partL epoch n i of b)):=by
 have HV:=qH hv;obtain⟨A,c,rfl,_⟩:=hv;go_enter Tryz.func106,Tryz.ntmps106;go_wp2_with fail
 refine(word_any epoch he _).mono ?_;rintro e w1⟨v1,rfl,hown1,aJ⟩;go_wp2_with fail
 refine(word_any n hn _).mono ?_;rintro e w2⟨v2,rfl,hown2,ag⟩;obtain⟨A1,c1,rfl,_⟩:=own_shape hown1;obtain⟨A2,c2,rfl,_⟩:=own_shape hown2;have iO:=qH (own_below hown1 ag);have fE:=qH ((RB.own hown2).src (P:=Tryz.prog) Tryz.underlying46);have ae:=qH (aJ.trans (ag.mono aJ.size));have hsz1:=aJ.size;clear hown1 hown2 aJ ag;go_wp2_with (at_builtin;refine wpList_own rfl (.tmp 17) (.tmp 18) 46 46 rfl w.heap.size 5 (.int .u8 0) 1 1 Tryz.underlying46 info5 rfl rfl iO.out rfl fE.out ae.out (Nat.le_refl _) ?_ ?_ ?_ ?_)
 ·simp only[wordL_length];unfold maxLen;omega
 ·simp only[wordL_length];omega
 ·exact ae.out.size
 intro v3 w3 am aA _;obtain⟨A3,c3,rfl,_⟩:=own_shape am;have jC:=qH (own_cat am);have ak:=qH aA;have jg:=aA.size;clear am aA iO fE ae;have HC:=qH (three_cells (i:=i) (o:=of) (l:=b.length) (by omega));go_wp2_with (at_builtin;(refine wpList_own rfl (.tmp 20) (.tmp 28) 46 46 rfl w.heap.size 5 (.int .u8 0) 1 1 Tryz.underlying46 info5 rfl rfl (jC.out.alloc _) rfl ((RB.own (three_own HC.out w3 5)).src Tryz.underlying46) (ak.out.alloc jg _) (Nat.le_refl _) ?_ ?_ ?_ ?_))
 ·simp[wordL];unfold maxLen;omega
 ·simp[wordL]
 ·simp;omega
 intro v4 w4 aO bY _;obtain⟨A4,c4,rfl,_⟩:=own_shape aO;have jp:=qH (own_cat aO);have ai:=qH bY;have jG:=bY.size;clear aO bY jC ak HC;go_wp2_with (at_builtin;refine wpList_own rfl (.tmp 30) (.tmp 31) 46 46 rfl w.heap.size 5 (.int .u8 0) 1 1 Tryz.underlying46 info5 rfl rfl jp.out rfl ((HV.out.below ai.out).src Tryz.underlying46) ai.out (Nat.le_refl _) ?_ ?_ ?_ ?_)
 ·simp[wordL];unfold maxLen;omega
 ·simp[wordL];omega
 ·exact jG
 intro v5 w5 ao aH _;obtain⟨A5,c5,rfl,_⟩:=own_shape ao;have hh:(wordL epoch++wordL n++ [UInt8.ofNat i,UInt8.ofNat of,UInt8.ofNat b.length])++b=headL epoch n i of b:=rfl;have dK:=qH (show w5.ownsRow w.heap.size 5 1 _ (headL epoch n i of b).length (bvs (headL epoch n i of b)) by rw[←hh];exact own_cat ao);have ax:=qH aH;have hlen:=headL_length epoch n i of b;have hpt:partL epoch n i of b=sealL (pad60 (headL epoch n i of b)):=rfl;clear ao aH jp ai hh hsz1 jg jG;generalize headL epoch n i of b=hd at *;go_wp2
 go_loopw [11] (fun o wr=>∃j:Nat,hd.length+j≤60∧wr.ownsRow w.heap.size 5 1 o (hd++List.replicate j 0).length (bvs (hd++List.replicate j 0))∧Below w.heap.size w wr)
  (fun o _=>60-vlenP o)
 case atStart=>exact⟨0,by omega,by simpa using dK.out,ax.out⟩
 case round=>
  obtain⟨j,hj,hown,ad⟩:=hrel;have hsz:=ad.size;obtain⟨Ar,cr,rfl,_⟩:=own_shape hown;have bZ:=RB.own hown;obtain⟨L,hL⟩:∃L,L=(hd++List.replicate j (0:UInt8)).length:=⟨_,rfl⟩
  have hl:L=hd.length+j:=by rw[hL];simp
  rw[←hL] at hown bZ⊢;have HO:=qH hown;have HB:=qH ad;have HR:=qH bZ;have HL:=qH hl;have f8:=qH hL;have Ju:L≤60:=by omega
  by_cases hlt:L<60
  ·clear hown ad dK ax hL hl bZ HR
   go_wp2_with (at_builtin;refine wpList_own rfl (.tmp 36) (.tmp 37) 46 46 rfl w.heap.size 5 (.int .u8 0) 1 1 Tryz.underlying46 info5 rfl rfl (HO.out.alloc _) rfl (src_one wr Tryz.underlying46 5 (.int .u8 0) rfl) (HB.out.alloc hsz _) (Nat.le_refl _) ?_ ?_ ?_ ?_)
   ·unfold maxLen;omega
   ·omega
   ·simp;omega
   intro v6 w6 bI bX _;obtain⟨A6,c6,rfl,_⟩:=own_shape bI;have GK:(hd++List.replicate (j+1) (0:UInt8)).length=L+1:=by rw[HL.out];simp;omega
   have Ef:=qH (show w6.ownsRow w.heap.size 5 1 (.slice A6 (L+1) c6) (hd++List.replicate (j+1) 0).length (bvs (hd++List.replicate (j+1) 0)) by rw[GK,pad_more,bvs_append];exact bI);have aE:=qH bX;clear bI bX GK;go_wp2;go_roundw
   case rel=>exact⟨j+1,by have:=HL.out;omega,Ef.out,aE.out⟩
   case measure=>simp only[vlenP];omega
  ·have hp:pad60 hd=hd++List.replicate j 0:=by unfold pad60;rw[show 60-hd.length=j by omega]
   rw[hp] at hpt;have j6:=qH hpt;clear hpt hown ad hl hL bZ hp;have hcall:=fun W (hb:RB W (.slice Ar L cr) (hd++List.replicate j 0))=>refSeal_any (.slice Ar L cr) (hd++List.replicate j 0) W hb (by rw[←f8.out];omega)
   obtain⟨sl,hsl⟩:∃sl,sl=sealL (hd++List.replicate j 0):=⟨_,rfl⟩
   rw[←hsl] at hcall;have HS:=qH hsl;have HC:=qH hcall;clear hsl hcall;go_wp2_with fail
   refine(HC.out _ HR.out).mono ?_;rintro e w7⟨v7,rfl,qF,rR⟩;have Ef:=qH qF;have bo:=qH rR;clear qF rR;go_wp2;go_ret;rw[j6.out,←HS.out];exact⟨_,rfl,own_base Ef.out hsz,HB.out.trans (bo.out.mono hsz)⟩
open Go.RowKit Go.Rst
theorem gen_allocN{K:World→Prop}{W:World}{o:Obj}(h:∀w',w'=W.alloc o→Below W.heap.size W w'→K w'):K (W.alloc o):=h _ rfl ((Below.refl _ _).alloc (Nat.le_refl _) _)
theorem chgL_key(c:Chg):(textL c.1.data.toList).length≤(chgL c).length:=by
 unfold chgL;simp only[List.length_append];omega
theorem chgL_put(key:ByteArray)(val:List UInt8):chgL (key,val,false)=textL key.data.toList++ [0]++textL val:=by simp[chgL]
theorem chgL_gone(key:ByteArray)(val:List UInt8):chgL (key,val,true)=textL key.data.toList++ [1]:=by simp[chgL]
theorem refChanges_any(v:Value)(rs:List Chg)(hbig:(chgsB rs).length≤100000000)(hn:rs.length≤100000000)(w:World)(hv:RC w v rs):
  Calls Tryz.prog 105 #[v] w (NewB 5 w (chgsL rs)):=by
 obtain⟨A,c,rfl,hlc,hc,hcells⟩:=hv;have HC:=qH hcells;clear hcells;unfold maxLen at hc;go_enter Tryz.func105,Tryz.ntmps105;go_wp2_with fail
 refine(refNum_any _ _).mono ?_;rintro e w1⟨vn,rfl,hown,ad⟩;have e1:clip (rs.length:Int)=rs.length:=by unfold clip;omega
 rw[e1] at hown;have h8:=numL_len8 (n:=rs.length) (by omega);have HO:=qH hown;have HB:=qH ad;clear e1 hown ad;go_wp2
 go_loopw [3,4] (fun b i wr=>∃k:Nat,k≤rs.length∧i= .int .i64 k∧wr.ownsRow w.heap.size 5 1 b (numL rs.length++chgsB (rs.take k)).length (bvs (numL rs.length++chgsB (rs.take k)))∧Below w.heap.size w wr)
  (fun _ i _=>rs.length-(intOf i).toNat)
 case atStart=>exact⟨0,Nat.zero_le _,rfl,by simpa [chgsB] using HO.out,HB.out⟩
 case round=>
  clear HO HB;obtain⟨k,hk,rfl,hown,ad⟩:=hrel;by_cases hlt:k<rs.length
  ·obtain⟨b,off,rfl,hb0,hcell⟩:∃b off,A=some ⟨b,off,none⟩∧b<w.heap.size∧
     ∀j (h:j<rs.length),w.cell? ⟨b,off+j*3,none⟩=some (.string rs[j].1)∧(∃u,w.cell? ⟨b,off+j*3+1,none⟩=some u∧RB w u rs[j].2.1)∧w.cell? ⟨b,off+j*3+2,none⟩=some (.bool rs[j].2.2):=by
    rcases HC.out with rfl|h
    ·simp at hlt
    ·exact h
   obtain⟨hc0,⟨u,hc1,bi⟩,hc2⟩:=hcell k hlt;have hb:b<wr.heap.size:=Nat.lt_of_lt_of_le hb0 ad.size;have dt:=(ad.cell (p:=⟨b,off+k*3,none⟩) hb0).trans hc0;have hk1:=(ad.cell (p:=⟨b,off+k*3+1,none⟩) hb0).trans hc1;have hk2:=(ad.cell (p:=⟨b,off+k*3+2,none⟩) hb0).trans hc2;have lO:=bi.below ad;have htk:=chgsB_take hlt;have hle:=chgsB_le rs (k+1);have hkl:=chgL_len rs[k];have CH:=chgL_key rs[k];rw[htk,List.length_append] at hle;obtain⟨⟨key,val,gone⟩,hr⟩:∃r,rs[k]=r:=⟨_,rfl⟩
   rw[hr] at dt hk2 bi lO htk hle hkl CH;have hacc:(numL rs.length++chgsB (rs.take k)).length≤1000000000:=by rw[List.length_append];omega
   have bE:numL rs.length++chgsB (rs.take (k+1))=(numL rs.length++chgsB (rs.take k))++chgL (key,val,gone):=by rw[htk];simp[List.append_assoc]
   generalize numL rs.length++chgsB (rs.take k)=acc at *;have hsz:=ad.size;have hks:key.size≤1000000000:=by rw[Array.length_toList] at hkl;show key.data.size≤_;simp only at hkl;omega
   have t1:(textL key.data.toList).length≤1000000000:=by simp only at CH;omega
   have HO:=qH (RB.own hown);have HB:=qH ad;have vF:=qH lO;obtain⟨A2,c2,rfl⟩:∃A2 c2,u= .slice A2 val.length c2:=by
    obtain⟨A2,c2,h,_⟩:=bi;exact⟨A2,c2,h⟩
   obtain⟨A3,c3,rfl,_⟩:=own_shape hown;have b1:(0:Int)≤(k:Int):=by omega
   have b2:(k:Int)<(rs.length:Int):=by omega
   simp only at hk2 dt hk1;have Dw:=qH hle;clear hcell hc0 hc1 hc2 htk HC bi lO hown ad hkl CH hr hle;cases gone
   ·have hput:=chgL_put key val
    have hle:=Dw.out;rw[hput] at hle bE;simp only[List.length_append,List.length_cons,List.length_nil] at hle;have hnx:numL rs.length++chgsB (rs.take (k+1))=acc++textL key.data.toList++ [0]++textL val:=by rw[bE];simp[List.append_assoc]
    have iM:=qH hnx;have t2:(textL val).length≤1000000000:=by omega
    have hvs:(⟨val.toArray⟩:ByteArray).size≤1000000000:=by
     have:val.length≤(textL val).length:=by unfold textL;rw[List.length_append];omega
     show val.toArray.size≤_;simp;omega
    clear hput hnx bE Dw hle;go_wp2;refine wp_region_held_drew (S:=SB [wr]) (by kernel_rfl) (SB.start _) (fun hHeld=>?_);obtain⟨w0,hw0⟩:∃x,x=wr.drew:=⟨_,rfl⟩
    rw[←hw0] at hHeld⊢;clear hw0;refine tkC 0 ?_;refine tkC 1 ?_;refine tkC 2 ?_;refine tkC 3 ?_;refine tkC 4 ?_;refine tkA 5 (v:=?_) ?_ ?_;rotate_left
    ·intro W hSw;have hq:=((SB.b0 hSw).cell (p:=⟨b,off+k*3,none⟩) hb).trans dt;go_simp;try (with_reducible rfl)
    try simp only[Act.put,zA,zB,zC]
    refine tkC 10 ?_;refine tkC 11 ?_;refine tkC 12 ?_;refine tkC 13 ?_;refine tkA 14 (v:=?_) ?_ ?_;rotate_left
    ·intro W hSw;have hq:=((SB.b0 hSw).cell (p:=⟨b,off+k*3+1,none⟩) hb).trans hk1;go_simp;try (with_reducible rfl)
    try simp only[Act.put,zA,zB,zC]
    refine tkA 15 (v:=?_) ?_ ?_;rotate_left
    ·intro W hSw;have hq:=str22 (vF.out.below (SB.b0 hSw));go_simp;try (with_reducible rfl)
    try simp only[Act.put,zA,zB,zC]
    refine rdA (rs:= [6,8]) ?_;refine AllReadyH.cons (o:=⟨some 35,.call ⟨.value (.func 140),#[.tmp 34],#[9]⟩,46,"ref.go:45",#[⟨5,.data⟩],none⟩) rfl (fun K hK=>?_) (AllReadyH.cons (o:=⟨some 37,.buildSlice 46 1 #[(0,.const (.int .u8 0))],46,"ref.go:45",#[],none⟩) rfl (fun K hK=>?_) AllReadyH.nil)
    ·go_simp
     refine(refText_any key hks _).mono ?_;rintro x w1⟨v1,rfl,hown1,bJ⟩;try (go_wp2_with fail)
     have ac:=SB.step hHeld bJ;refine hK.out _ _ ?_ (fun _=>?_)
     ·exact ac
     clear hK K;try simp only[Act.put,zA,zB,zC]
     have hHeld:=SB.more ac;clear ac;refine wpAnyH_more (S':=SB [w1,wr]) (fun W h=>SB.less W h) _ _ _ _ ?_;refine rdA (rs:= [7,8]) ?_;refine AllReadyH.cons (o:=⟨some 36,.call ⟨.value (.func 139),#[.tmp 29,.tmp 35],#[46,46]⟩,46,"ref.go:45",#[⟨0,.data⟩,⟨6,.data⟩,⟨6,.chain⟩],none⟩) rfl (fun K hK=>?_) (AllReadyH.cons (o:=⟨some 37,.buildSlice 46 1 #[(0,.const (.int .u8 0))],46,"ref.go:45",#[],none⟩) rfl (fun K hK=>?_) AllReadyH.nil)
     ·go_simp
      refine(join_any _ _ _ _ (by omega) (by omega) _ (HO.out.below (SB.b1 hHeld)) ((RB.own hown1).below (SB.b0 hHeld))).mono ?_;rintro x w2⟨v2,rfl,hown2,bg⟩;try (go_wp2_with fail)
      have ac:=SB.step hHeld bg;refine hK.out _ _ ?_ (fun _=>?_)
      ·exact ac
      clear hK K;try simp only[Act.put,zA,zB,zC]
      have hHeld:=SB.more ac;clear ac;refine wpAnyH_more (S':=SB [w2,w1,wr]) (fun W h=>SB.less W h) _ _ _ _ ?_;refine rdA (rs:= [8]) ?_;refine arC (fun K hK=>?_);go_simp;refine gen_allocN ?_;intro wz hwz hbwz;have hz:RB wz (.slice (some ⟨w2.heap.size,0,none⟩) 1 1) [0]:=by rw[hwz];exact RB.lit w2 5 (0,0) [0] _ rfl 1 rfl (by decide)
      clear hwz;try (go_wp2_with fail)
      have ac:=SB.step hHeld hbwz;refine hK.out _ _ ?_ (fun _=>?_)
      ·exact ac
      clear hK K;try simp only[Act.put,zA,zB,zC]
      have hHeld:=SB.more ac;clear ac;refine wpAnyH_more (S':=SB [wz,w2,w1,wr]) (fun W h=>SB.less W h) _ _ _ _ ?_;refine rdA (rs:= [9]) ?_;refine arC (fun K hK=>?_);go_simp;refine(join_any _ _ _ [0] (by rw[List.length_append];omega) (by decide) _ ((RB.own hown2).below (SB.b1 hHeld)) (hz.below (SB.b0 hHeld))).mono ?_;rintro x w3⟨v3,rfl,am,aZ⟩;try (go_wp2_with fail)
      have ac:=SB.step hHeld aZ;refine hK.out _ _ ?_ (fun _=>?_)
      ·exact ac
      clear hK K;try simp only[Act.put,zA,zB,zC]
      have hHeld:=SB.more ac;clear ac;refine wpAnyH_more (S':=SB [w3,wz,w2,w1,wr]) (fun W h=>SB.less W h) _ _ _ _ ?_;refine rdA (rs:= [16]) ?_;refine arC (fun K hK=>?_);go_simp;refine(refText_any ⟨val.toArray⟩ hvs _).mono ?_;rintro x w4⟨v4,rfl,aO,aq⟩;try (go_wp2_with fail)
      have ac:=SB.step hHeld aq;refine hK.out _ _ ?_ (fun _=>?_)
      ·exact ac
      clear hK K;try simp only[Act.put,zA,zB,zC]
      have hHeld:=SB.more ac;clear ac;refine wpAnyH_more (S':=SB [w4,w3,wz,w2,w1,wr]) (fun W h=>SB.less W h) _ _ _ _ ?_;refine rdA (rs:= [17]) ?_;refine arC (fun K hK=>?_);go_simp;refine(join_any _ _ _ _ (by simp only[List.length_append,List.length_cons,List.length_nil];omega) (by omega) _ ((RB.own am).below (SB.b1 hHeld)) ((RB.own aO).below (SB.b0 hHeld))).mono ?_;have ax:=qH ((SB.b5 hHeld).size);rintro x w5⟨v5,rfl,ao,it⟩;try (go_wp2_with fail)
      have ac:=SB.step hHeld it;refine hK.out _ _ ?_ (fun _=>?_)
      ·exact ac
      clear hK K;try simp only[Act.put,zA,zB,zC]
      have hHeld:=SB.more ac;clear ac;refine wpAnyH_more (S':=SB [w5,w4,w3,wz,w2,w1,wr]) (fun W h=>SB.less W h) _ _ _ _ ?_;refine tkC 18 ?_;refine wpAnyH_done (by kernel_rfl) ?_ _;go_wp2;go_roundw
      case rel=>
       refine⟨k+1,by omega,by go_num,?_,HB.out.trans ((SB.b6 hHeld).mono HB.out.size)⟩;rw[iM.out];exact own_base ao (Nat.le_trans HB.out.size ax.out)
      case measure=>simp[intOf];omega
     ·go_simp
      refine gen_allocN ?_;intro wz hwz hbwz;have hz:RB wz (.slice (some ⟨w1.heap.size,0,none⟩) 1 1) [0]:=by rw[hwz];exact RB.lit w1 5 (0,0) [0] _ rfl 1 rfl (by decide)
      clear hwz;try (go_wp2_with fail)
      have ac:=SB.step hHeld hbwz;refine hK.out _ _ ?_ (fun _=>?_)
      ·exact ac
      clear hK K;try simp only[Act.put,zA,zB,zC]
      have hHeld:=SB.more ac;clear ac;refine wpAnyH_more (S':=SB [wz,w1,wr]) (fun W h=>SB.less W h) _ _ _ _ ?_;refine rdA (rs:= [7]) ?_;refine arC (fun K hK=>?_);go_simp;refine(join_any _ _ _ _ (by omega) (by omega) _ (HO.out.below (SB.b2 hHeld)) ((RB.own hown1).below (SB.b1 hHeld))).mono ?_;rintro x w2⟨v2,rfl,hown2,bg⟩;try (go_wp2_with fail)
      have ac:=SB.step hHeld bg;refine hK.out _ _ ?_ (fun _=>?_)
      ·exact ac
      clear hK K;try simp only[Act.put,zA,zB,zC]
      have hHeld:=SB.more ac;clear ac;refine wpAnyH_more (S':=SB [w2,wz,w1,wr]) (fun W h=>SB.less W h) _ _ _ _ ?_;refine rdA (rs:= [9]) ?_;refine arC (fun K hK=>?_);go_simp;refine(join_any _ _ _ [0] (by rw[List.length_append];omega) (by decide) _ ((RB.own hown2).below (SB.b0 hHeld)) (hz.below (SB.b1 hHeld))).mono ?_;rintro x w3⟨v3,rfl,am,aZ⟩;try (go_wp2_with fail)
      have ac:=SB.step hHeld aZ;refine hK.out _ _ ?_ (fun _=>?_)
      ·exact ac
      clear hK K;try simp only[Act.put,zA,zB,zC]
      have hHeld:=SB.more ac;clear ac;refine wpAnyH_more (S':=SB [w3,w2,wz,w1,wr]) (fun W h=>SB.less W h) _ _ _ _ ?_;refine rdA (rs:= [16]) ?_;refine arC (fun K hK=>?_);go_simp;refine(refText_any ⟨val.toArray⟩ hvs _).mono ?_;rintro x w4⟨v4,rfl,aO,aq⟩;try (go_wp2_with fail)
      have ac:=SB.step hHeld aq;refine hK.out _ _ ?_ (fun _=>?_)
      ·exact ac
      clear hK K;try simp only[Act.put,zA,zB,zC]
      have hHeld:=SB.more ac;clear ac;refine wpAnyH_more (S':=SB [w4,w3,w2,wz,w1,wr]) (fun W h=>SB.less W h) _ _ _ _ ?_;refine rdA (rs:= [17]) ?_;refine arC (fun K hK=>?_);go_simp;refine(join_any _ _ _ _ (by simp only[List.length_append,List.length_cons,List.length_nil];omega) (by omega) _ ((RB.own am).below (SB.b1 hHeld)) ((RB.own aO).below (SB.b0 hHeld))).mono ?_;have ax:=qH ((SB.b5 hHeld).size);rintro x w5⟨v5,rfl,ao,it⟩;try (go_wp2_with fail)
      have ac:=SB.step hHeld it;refine hK.out _ _ ?_ (fun _=>?_)
      ·exact ac
      clear hK K;try simp only[Act.put,zA,zB,zC]
      have hHeld:=SB.more ac;clear ac;refine wpAnyH_more (S':=SB [w5,w4,w3,w2,wz,w1,wr]) (fun W h=>SB.less W h) _ _ _ _ ?_;refine tkC 18 ?_;refine wpAnyH_done (by kernel_rfl) ?_ _;go_wp2;go_roundw
      case rel=>
       refine⟨k+1,by omega,by go_num,?_,HB.out.trans ((SB.b6 hHeld).mono HB.out.size)⟩;rw[iM.out];exact own_base ao (Nat.le_trans HB.out.size ax.out)
      case measure=>simp[intOf];omega
    ·go_simp
     refine gen_allocN ?_;intro wz hwz hbwz;have hz:RB wz (.slice (some ⟨w0.heap.size,0,none⟩) 1 1) [0]:=by rw[hwz];exact RB.lit w0 5 (0,0) [0] _ rfl 1 rfl (by decide)
     clear hwz;try (go_wp2_with fail)
     have ac:=SB.step hHeld hbwz;refine hK.out _ _ ?_ (fun _=>?_)
     ·exact ac
     clear hK K;try simp only[Act.put,zA,zB,zC]
     have hHeld:=SB.more ac;clear ac;refine wpAnyH_more (S':=SB [wz,wr]) (fun W h=>SB.less W h) _ _ _ _ ?_;refine rdA (rs:= [6]) ?_;refine arC (fun K hK=>?_);go_simp;refine(refText_any key hks _).mono ?_;rintro x w1⟨v1,rfl,hown1,bJ⟩;try (go_wp2_with fail)
     have ac:=SB.step hHeld bJ;refine hK.out _ _ ?_ (fun _=>?_)
     ·exact ac
     clear hK K;try simp only[Act.put,zA,zB,zC]
     have hHeld:=SB.more ac;clear ac;refine wpAnyH_more (S':=SB [w1,wz,wr]) (fun W h=>SB.less W h) _ _ _ _ ?_;refine rdA (rs:= [7]) ?_;refine arC (fun K hK=>?_);go_simp;refine(join_any _ _ _ _ (by omega) (by omega) _ (HO.out.below (SB.b2 hHeld)) ((RB.own hown1).below (SB.b0 hHeld))).mono ?_;rintro x w2⟨v2,rfl,hown2,bg⟩;try (go_wp2_with fail)
     have ac:=SB.step hHeld bg;refine hK.out _ _ ?_ (fun _=>?_)
     ·exact ac
     clear hK K;try simp only[Act.put,zA,zB,zC]
     have hHeld:=SB.more ac;clear ac;refine wpAnyH_more (S':=SB [w2,w1,wz,wr]) (fun W h=>SB.less W h) _ _ _ _ ?_;refine rdA (rs:= [9]) ?_;refine arC (fun K hK=>?_);go_simp;refine(join_any _ _ _ [0] (by rw[List.length_append];omega) (by decide) _ ((RB.own hown2).below (SB.b0 hHeld)) (hz.below (SB.b2 hHeld))).mono ?_;rintro x w3⟨v3,rfl,am,aZ⟩;try (go_wp2_with fail)
     have ac:=SB.step hHeld aZ;refine hK.out _ _ ?_ (fun _=>?_)
     ·exact ac
     clear hK K;try simp only[Act.put,zA,zB,zC]
     have hHeld:=SB.more ac;clear ac;refine wpAnyH_more (S':=SB [w3,w2,w1,wz,wr]) (fun W h=>SB.less W h) _ _ _ _ ?_;refine rdA (rs:= [16]) ?_;refine arC (fun K hK=>?_);go_simp;refine(refText_any ⟨val.toArray⟩ hvs _).mono ?_;rintro x w4⟨v4,rfl,aO,aq⟩;try (go_wp2_with fail)
     have ac:=SB.step hHeld aq;refine hK.out _ _ ?_ (fun _=>?_)
     ·exact ac
     clear hK K;try simp only[Act.put,zA,zB,zC]
     have hHeld:=SB.more ac;clear ac;refine wpAnyH_more (S':=SB [w4,w3,w2,w1,wz,wr]) (fun W h=>SB.less W h) _ _ _ _ ?_;refine rdA (rs:= [17]) ?_;refine arC (fun K hK=>?_);go_simp;refine(join_any _ _ _ _ (by simp only[List.length_append,List.length_cons,List.length_nil];omega) (by omega) _ ((RB.own am).below (SB.b1 hHeld)) ((RB.own aO).below (SB.b0 hHeld))).mono ?_;have ax:=qH ((SB.b5 hHeld).size);rintro x w5⟨v5,rfl,ao,it⟩;try (go_wp2_with fail)
     have ac:=SB.step hHeld it;refine hK.out _ _ ?_ (fun _=>?_)
     ·exact ac
     clear hK K;try simp only[Act.put,zA,zB,zC]
     have hHeld:=SB.more ac;clear ac;refine wpAnyH_more (S':=SB [w5,w4,w3,w2,w1,wz,wr]) (fun W h=>SB.less W h) _ _ _ _ ?_;refine tkC 18 ?_;refine wpAnyH_done (by kernel_rfl) ?_ _;go_wp2;go_roundw
     case rel=>
      refine⟨k+1,by omega,by go_num,?_,HB.out.trans ((SB.b6 hHeld).mono HB.out.size)⟩;rw[iM.out];exact own_base ao (Nat.le_trans HB.out.size ax.out)
     case measure=>simp[intOf];omega
   ·have hput:=chgL_gone key val
    rw[hput] at bE;have hnx:numL rs.length++chgsB (rs.take (k+1))=acc++textL key.data.toList++ [1]:=by rw[bE];simp[List.append_assoc]
    have iM:=qH hnx;clear hput hnx bE Dw;go_wp2_with fail
    refine(refText_any key hks _).mono ?_;rintro x w1⟨v1,rfl,hown1,bJ⟩;go_wp2_with fail
    refine(join_any _ _ _ _ (by omega) (by omega) _ (HO.out.below bJ) (RB.own hown1)).mono ?_;rintro x w2⟨v2,rfl,hown2,bg⟩;have ae:=qH (bJ.trans (bg.mono bJ.size));go_wp2_with fail
    have hbl:Below w2.heap.size w2 (w2.alloc (.cells #[.int .u8 1] 5 (0,0))):=(Below.refl _ _).alloc (Nat.le_refl _) _;refine(join_any _ _ _ [1] (by rw[List.length_append];omega) (by decide) _ ((RB.own hown2).below hbl) (RB.lit w2 5 (0,0) [1] _ rfl 1 rfl (by decide))).mono ?_;rintro x w3⟨v3,rfl,am,aZ⟩;have ak:=qH (hbl.trans (aZ.mono hbl.size));go_wp2;go_roundw
    case rel=>
     refine⟨k+1,by omega,by go_num,?_,?_⟩
     ·rw[iM.out]
      exact own_base am (Nat.le_trans HB.out.size (Nat.le_trans ae.out.size hbl.size))
     ·exact HB.out.trans ((ae.out.trans (ak.out.mono ae.out.size)).mono HB.out.size)
    case measure=>simp[intOf];omega
  ·go_wp2
   go_ret;have:k=rs.length:=by omega
   subst this;rw[List.take_length] at hown;exact⟨_,rfl,hown,ad⟩
open Go.RowKit Go.Rst Go.Crc
def b9(s:List UInt8):Nat:=(s.getD 9 0).toNat
def b10(s:List UInt8):Nat:=(s.getD 10 0).toNat
def toldL:List (List UInt8)→Nat
 | []=>0
 |s::_=>if s.length=64 then b9 s else 0
def pieceP(s:List UInt8):List UInt8:=(s.drop 11).take (min (b10 s) 49)
def allP(ss:List (List UInt8)):List UInt8:=ss.flatMap pieceP
def frameS(ep n:Int)(ss:List (List UInt8)):List Chg×Nat:=
 if ss.length<toldL ss then ([],0)
 else if (ss.take (toldL ss)).all (fun s=>s.length==64)=false then ([],0)
 else if (readChgs (allP (ss.take (toldL ss)))).2≠0 then ([],0)
 else if (partsL ep n (readChgs (allP (ss.take (toldL ss)))).1).1=ss.take (toldL ss) then ((readChgs (allP (ss.take (toldL ss)))).1,toldL ss)
 else ([],0)
structure GoodS (ep n:Nat) (s:List UInt8) (j of:Nat):Prop where
 len:s.length=64
 lo:1≤b10 s
 hi:b10 s≤49
 eq:s=partL ep n j of (pieceP s)
 full:j+1<of→b10 s=49
structure GoodF (ep n:Nat) (ss:List (List UInt8)) (of:Nat):Prop where
 told:of=toldL ss
 lo:1≤of
 hi:of≤200
 le:of≤ss.length
 good:∀j (h:j<ss.length),j<of→GoodS ep n ss[j] j of
theorem pieceP_len{s:List UInt8}(h:s.length=64)(h2:b10 s≤49):(pieceP s).length=b10 s:=by
 unfold pieceP;rw[List.length_take,List.length_drop,h];omega
theorem part_bytes{ep n i of:Nat}{p:List UInt8}(hp:p.length≤49)(hof:of≤255):
  b9 (partL ep n i of p)=of∧b10 (partL ep n i of p)=p.length∧pieceP (partL ep n i of p)=p:=by
 have e:partL ep n i of p=wordL ep++(wordL n++([UInt8.ofNat i,UInt8.ofNat of,UInt8.ofNat p.length]++(p++(List.replicate (60-(headL ep n i of p).length) 0++tailL (csum (pad60 (headL ep n i of p))))))):=by
  unfold partL sealL;rw[show pad60 (headL ep n i of p)=headL ep n i of p++List.replicate (60-(headL ep n i of p).length) 0 from rfl];unfold headL;simp only[List.append_assoc]
 have h9:b9 (partL ep n i of p)=of:=by
  unfold b9;rw[e];simp only[wordL,List.cons_append,List.nil_append,List.getD_cons_succ,List.getD_cons_zero,UInt8.toNat_ofNat'];omega
 have h10:b10 (partL ep n i of p)=p.length:=by
  unfold b10;rw[e];simp only[wordL,List.cons_append,List.nil_append,List.getD_cons_succ,List.getD_cons_zero,UInt8.toNat_ofNat'];omega
 refine⟨h9,h10,?_⟩;unfold pieceP;rw[h10,Nat.min_eq_left hp,e];simp only[wordL,List.cons_append,List.nil_append,List.drop_succ_cons,List.drop_zero];rw[List.take_left' rfl]
theorem allP_take{ss:List (List UInt8)}{k:Nat}(h:k<ss.length):allP (ss.take (k+1))=allP (ss.take k)++pieceP ss[k]:=by
 unfold allP;rw[List.take_succ_eq_append_getElem h,List.flatMap_append];simp
section
variable {ep n of:Nat} {ss:List (List UInt8)}
theorem good_len(h:GoodF ep n ss of):∀k,k<of→(allP (ss.take k)).length=49*k:=by
 intro k
 induction k with
 |zero=>intro _;simp[allP]
 |succ k ih=>
  intro hk;have hkl:k<ss.length:=by have:=h.le;omega
  have g:=h.good k hkl (by omega);rw[allP_take hkl,List.length_append,ih (by omega),pieceP_len g.len g.hi,g.full (by omega)];omega
theorem good_all(h:GoodF ep n ss of):∃r,1≤r∧r≤49∧(allP (ss.take of)).length=49*(of-1)+r:=by
 have hlo:=h.lo;obtain⟨k,rfl⟩:∃k,of=k+1:=⟨of-1,by omega⟩
 have hkl:k<ss.length:=by have:=h.le;omega
 have g:=h.good k hkl (by omega);refine⟨b10 ss[k],g.lo,g.hi,?_⟩;rw[allP_take hkl,List.length_append,good_len h k (by omega),pieceP_len g.len g.hi];omega
theorem good_of(h:GoodF ep n ss of):ofL (allP (ss.take of))=of:=by
 obtain⟨r,h1,h2,h3⟩:=good_all h;have:=h.lo;unfold ofL;rw[h3];omega
theorem good_pc(h:GoodF ep n ss of){j:Nat}(hj:j<of)(hjl:j<ss.length):pcL (allP (ss.take of)) j=pieceP ss[j]:=by
 have e:ss.take of=ss.take j++(ss[j]::(ss.drop (j+1)).take (of-(j+1))):=by
  rw[show of=j+(of-j) by omega,List.take_add,List.drop_eq_getElem_cons hjl,show of-j=(of-(j+1))+1 by omega,List.take_succ_cons]
  congr 3
  omega
 have g:=h.good j hjl hj;unfold pcL;rw[e];unfold allP;rw[List.flatMap_append,List.flatMap_cons,List.drop_left' (show(List.flatMap pieceP (ss.take j)).length=49*j from good_len h j hj)];by_cases hl:j+1<of
 ·rw[List.take_left' (by rw[pieceP_len g.len g.hi,g.full hl])]
 ·rw[show of-(j+1)=0 by omega,List.take_zero,List.flatMap_nil,List.append_nil,List.take_of_length_le (by rw[pieceP_len g.len g.hi];exact g.hi)]
theorem good_sec(h:GoodF ep n ss of):secL ep n (allP (ss.take of)) of=ss.take of:=by
 refine List.ext_getElem (by rw[secL_length,List.length_take];have:=h.le;omega) (fun j h1 h2=>?_);rw[secL_length] at h1;have hjl:j<ss.length:=by have:=h.le;omega
 simp only[secL,List.getElem_map,List.getElem_range,List.getElem_take];rw[good_of h,good_pc h h1 hjl];exact(h.good j hjl h1).eq.symm
theorem good_frame(h:GoodF ep n ss of)(fg:ep≤1073741824)(hn:n≤1073741824)(he:(readChgs (allP (ss.take of))).2=0):frameS ep n ss=((readChgs (allP (ss.take of))).1,of):=by
 have hf:=readChgs_fwd (l:=allP (ss.take of)) (cs:=(readChgs (allP (ss.take of))).1) (by rw[←he]);have hle:=h.le;have hhi:=h.hi;have hall:((ss.take of).all fun s=>s.length==64)=true:=by
  rw[List.all_eq_true];intro s hs;obtain⟨j,hj,rfl⟩:=List.getElem_of_mem hs;rw[List.length_take] at hj;rw[List.getElem_take,(h.good j (by omega) (by omega)).len];rfl
 have hpt:(partsL ep n (readChgs (allP (ss.take of))).1).1=ss.take of:=by
  unfold partsL;rw[if_neg (by omega),hf,good_of h,if_neg (by omega)];exact good_sec h
 unfold frameS;rw[←h.told,if_neg (by omega),if_neg (by rw[hall];decide),if_neg (by rw[he];simp),if_pos hpt]
theorem frame_err(h:GoodF ep n ss of)(he:(readChgs (allP (ss.take of))).2≠0):frameS ep n ss=([],0):=by
 unfold frameS;rw[←h.told];split
 ·rfl
 ·split
  ·rfl
  ·first|rfl|rw[if_pos he]
theorem parts_secs{epoch num:Int}{cs:List Chg}(h:(partsL epoch num cs).1≠ []):(partsL epoch num cs).1=secL epoch.toNat num.toNat (chgsL cs) (ofL (chgsL cs))∧ofL (chgsL cs)≤200∧0≤epoch∧epoch≤1073741824∧0≤num∧num≤1073741824:=by
 unfold partsL at h⊢;split at h
 ·exact(h rfl).elim
 ·split at h
  ·exact(h rfl).elim
  ·rename_i h1 h2
   rw[if_neg h1,if_neg h2];exact⟨rfl,by omega,by omega,by omega,by omega,by omega⟩
theorem readChgs_nil:(readChgs []).2≠0:=by
 have:getNum [] 0=(0,0,10):=by unfold getNum gnumF;simp
 unfold readChgs;rw[this];simp
theorem frame_good{epoch num:Int}{l:List Chg}{c:Nat}(h:frameS epoch num ss=(l,c))(hc:c≠0):
  GoodF epoch.toNat num.toNat ss c∧(readChgs (allP (ss.take c)))=(l,0)∧0≤epoch∧epoch≤1073741824∧0≤num∧num≤1073741824∧chgsL l=allP (ss.take c):=by
 unfold frameS at h;split at h
 ·injection h with _ h;exact(hc h.symm).elim
 ·rename_i h1
  split at h
  ·injection h with _ h;exact(hc h.symm).elim
  ·rename_i h2
   split at h
   ·injection h with _ h;exact(hc h.symm).elim
   ·rename_i h3
    split at h
    ·rename_i h4
     injection h with hl hcc;subst hcc;have hre:readChgs (allP (ss.take (toldL ss)))=(l,0):=by rw[←hl];exact Prod.ext rfl (by simpa using h3)
     have hf:=readChgs_fwd hre;rw[hl] at h4;have hne:(partsL epoch num l).1≠ []:=by
      rw[h4];intro e;have:=congrArg List.length e;rw[List.length_take,List.length_nil] at this;omega
     obtain⟨p1,p2,p3,p4,p5,p6⟩:=parts_secs hne;rw[p1,hf] at h4;rw[hf] at p2;have hlen:=congrArg List.length h4;rw[secL_length,List.length_take,Nat.min_eq_left (by omega)] at hlen;have dJ:∀j (hj:j<ss.length),j<toldL ss→GoodS epoch.toNat num.toNat ss[j] j (toldL ss):=by
      intro j hj hjt;have e:ss[j]=partL epoch.toNat num.toNat j (toldL ss) (pcL (allP (ss.take (toldL ss))) j):=by
       have h5:(secL epoch.toNat num.toNat (allP (ss.take (toldL ss))) (ofL (allP (ss.take (toldL ss)))))[j]'(by rw[secL_length];omega)=(ss.take (toldL ss))[j]'(by rw[List.length_take];omega):=by simp only[h4]
       rw[List.getElem_take] at h5;rw[←h5];simp only[secL,List.getElem_map,List.getElem_range];rw[hlen]
      have hpl:=pcL_length (allP (ss.take (toldL ss))) j;have hof:ofL (allP (ss.take (toldL ss)))=((allP (ss.take (toldL ss))).length+48)/49:=rfl;obtain⟨e1,e2,e3⟩:=part_bytes (ep:=epoch.toNat) (n:=num.toNat) (i:=j) (of:=toldL ss) (p:=pcL (allP (ss.take (toldL ss))) j) (by omega) (by omega);rw[←e] at e1 e2 e3;exact⟨by rw[e];exact partL_length (by omega),by omega,by omega,by rw[e3];exact e,fun hf=>by omega⟩
     exact⟨⟨rfl,by omega,by omega,by omega,dJ⟩,hre,p3,p4,p5,p6,hf⟩
    ·injection h with _ h;exact(hc h.symm).elim
theorem frame_not(h:¬GoodF ep n ss (toldL ss)):frameS ep n ss=([],0):=by
 obtain⟨l,c,he⟩:∃l c,frameS ep n ss=(l,c):=⟨_,_,rfl⟩
 by_cases hc:c=0
 ·subst hc
  rw[he];unfold frameS at he;split at he
  ·exact he.symm
  ·split at he
   ·exact he.symm
   ·split at he
    ·exact he.symm
    ·rename_i h3
     split at he
     ·injection he with _ h0
      rw[h0,List.take_zero] at h3;exact(h3 readChgs_nil).elim
     ·exact he.symm
 ·obtain⟨g,_⟩:=frame_good he hc
  have:=g.told;simp only[Int.toNat_natCast] at g;rw[←this] at h;exact(h g).elim
end
theorem frame_out{epoch num:Int}(h:epoch<0∨1073741824<epoch∨num<0∨1073741824<num)(ss:List (List UInt8)):frameS epoch num ss=([],0):=by
 obtain⟨l,c,he⟩:∃l c,frameS epoch num ss=(l,c):=⟨_,_,rfl⟩
 by_cases hc:c=0
 ·subst hc
  rw[he];unfold frameS at he;split at he
  ·exact he.symm
  ·split at he
   ·exact he.symm
   ·split at he
    ·exact he.symm
    ·rename_i h3
     split at he
     ·injection he with _ h0
      rw[h0,List.take_zero] at h3;exact(h3 readChgs_nil).elim
     ·exact he.symm
 ·obtain⟨_,_,h1,h2,h3,h4,_⟩:=frame_good he hc
  omega
theorem frame_le{epoch num:Int}{ss:List (List UInt8)}:(frameS epoch num ss).2≤ss.length:=by
 by_cases hc:(frameS epoch num ss).2=0
 ·omega
 ·exact(frame_good (l:=(frameS epoch num ss).1) (c:=(frameS epoch num ss).2) rfl hc).1.le
def readF:Nat→Int→List (List UInt8)→Nat→List (List Chg)×Nat
 |0,_,_,_=>([],0)
 |f+1,ep,ss,k=>if (frameS ep k ss).2=0 then ([],0) else
  ((frameS ep k ss).1::(readF f ep (ss.drop (frameS ep k ss).2) (k+1)).1,(frameS ep k ss).2+(readF f ep (ss.drop (frameS ep k ss).2) (k+1)).2)
def readS(ep:Int)(ss:List (List UInt8)):List (List Chg)×Nat:=readF (ss.length+1) ep ss 0
theorem getChange_val(l:List UInt8)(p:Int):(getChange l p).2.1.length≤150:=by
 have h2:=getText_spec l ((getText l p 30).2.1+1) 150;unfold getChange;split
 ·simp
 ·split
  ·simp
  ·split
   ·simp
   ·split
    ·simp
    ·split
     ·simp
     ·rename_i h
      simp only;rcases h2 with h2|h2
      ·have:=h2.2.2.2.2.2;omega
      ·exact absurd h2.1 (by intro hh;rcases hh with hh|hh <;>omega)
theorem chgsF_val(l:List UInt8):∀(f:Nat) (q:Int) (acc:List Chg),(∀c∈acc,c.2.1.length≤150)→∀c∈(chgsF l f q acc).1,c.2.1.length≤150
 |0,q,acc,h,c,hc=>by
  unfold chgsF at hc;split at hc
  ·cases hc
  ·exact h c hc
 |f+1,q,acc,h,c,hc=>by
  unfold chgsF at hc;split at hc
  ·cases hc
  ·refine chgsF_val l f _ _ (fun d hd=>?_) c hc
   rcases List.mem_append.1 hd with hd|hd
   ·exact h d hd
   ·simp only[List.mem_singleton] at hd
    subst hd;exact getChange_val l q
theorem readChgs_val(l:List UInt8):∀c∈(readChgs l).1,c.2.1.length≤150:=by
 unfold readChgs;split
 ·intro c hc;cases hc
 ·split
  ·intro c hc;cases hc
  ·exact chgsF_val l _ _ _ (fun c hc=>by cases hc)
theorem chgL_pos(c:Chg):1≤(chgL c).length:=by
 have:=numL_pos c.1.data.toList.length;unfold chgL textL;split <;>simp only[List.length_append]<;>omega
theorem chgsB_pos:∀cs:List Chg,cs.length≤(chgsB cs).length
 | []=>Nat.le_refl _
 |c::cs=>by
  have h1:=chgL_pos c;have h2:=chgsB_pos cs;have e:chgsB (c::cs)=chgL c++chgsB cs:=by unfold chgsB;rw[List.flatMap_cons]
  rw[e,List.length_append,List.length_cons];omega
theorem readChgs_few{l:List UInt8}{cs:List Chg}(h:readChgs l=(cs,0)):(chgsB cs).length≤l.length∧cs.length≤l.length:=by
 have h1:=readChgs_fwd h;have h2:=chgsB_pos cs;have h3:=congrArg List.length h1;unfold chgsL at h3;rw[List.length_append] at h3;omega
theorem allP_len:∀ss:List (List UInt8),(allP ss).length≤49*ss.length
 | []=>by simp[allP]
 |s::ss=>by
  have ih:=allP_len ss;have e:allP (s::ss)=pieceP s++allP ss:=by unfold allP;rw[List.flatMap_cons]
  have h:(pieceP s).length≤49:=by unfold pieceP;rw[List.length_take];omega
  rw[e,List.length_append,List.length_cons];omega
open Go.RowKit Go.Rst
theorem row_any(k:ByteArray)(v:Value)(l:List UInt8)(hk:k.size≤1000000000)(hl:l.length≤1000000000)(w:World)(hv:RB w v l):Calls Tryz.prog 148 #[.agg #[.string k,v]] w (NewB 5 w (rowL k.data.toList l)):=by
 go_enter Tryz.func148,Tryz.ntmps148;go_wp2_with fail
 have hb0:Below w.heap.size w (w.alloc (Obj.cells #[Value.string k,v] 78)):=(Below.refl _ _).alloc (Nat.le_refl _) _;have hc0:(w.alloc (Obj.cells #[Value.string k,v] 78)).cell? ⟨w.heap.size,0,none⟩=some (.string k):=by simp
 have hc1:(w.alloc (Obj.cells #[Value.string k,v] 78)).cell? ⟨w.heap.size,1,none⟩=some v:=by simp
 have hr:=hv.alloc (Obj.cells #[Value.string k,v] 78);have hsz:w.heap.size<(w.alloc (Obj.cells #[Value.string k,v] 78)).heap.size:=by simp
 generalize w.alloc (Obj.cells #[Value.string k,v] 78)=w2 at *;have hst:=row_keep (w:=w) (X:=w2) (w3:=w2.drew) (Below.refl _ _).drew hc0 hc1 hr hb0 hsz;have hk':=textL_len (l:=k.data.toList) (by rw[Array.length_toList];exact hk);have hl':=textL_len hl;have hlen:(⟨l.toArray⟩:ByteArray).size≤1000000000:=by simpa [ByteArray.size] using hl
 go_region_held3 (fun w'=>w'.cell? ⟨w.heap.size,0,none⟩=some (.string k)∧w'.cell? ⟨w.heap.size,1,none⟩=some v∧(convert 46 9 v).run Tryz.prog w'= .ok (.string ⟨l.toArray⟩) w'∧RB w' v l∧Below w.heap.size w w'∧w.heap.size<w'.heap.size)
  (first
   |exact hst
   |exact row_kept (by assumption) aJ
   |exact row_kept (by assumption) ag
   |exact row_kept hst aH)
  (first
   |(go_at_call_of 161 (Value.string k);refine(text_any k hk _).mono ?_;rintro e w3 ⟨v1,rfl,hown1,aJ⟩)
   |(go_at_call_of 161 (Value.string ⟨l.toArray⟩);refine(text_any _ hlen _).mono ?_;rintro e w4 ⟨v2,rfl,hown2,ag⟩)
   |(refine step_own (by rfl) (.tmp 5) (.tmp 9) 46 46 (by rfl) w2.drew.heap.size 5 (.int .u8 0) 1 1 Tryz.underlying46 info5 rfl (by rfl) (own_below hown1 ag) (by rfl) (RB.src (RB.own hown2) Tryz.underlying46) (aJ.trans (ag.mono aJ.size)) (Nat.le_refl _) (by unfold maxLen;omega) (by omega) (Nat.le_trans aJ.size ag.size) ?_;intro v' w5 hown' aH _))
 go_wp2;go_ret;exact⟨v',rfl,own_cat (own_base hown' (Nat.le_of_lt hsz)),(hb0.drew).trans (aH.mono (Nat.le_of_lt hsz))⟩
open Go.RowKit Go.Rst Go.Pg Go.Crc
theorem allP_append(a b:List (List UInt8)):allP (a++b)=allP a++allP b:=by unfold allP;rw[List.flatMap_append]
theorem allP_one(s:List UInt8):allP [s]=pieceP s:=by unfold allP;simp
theorem allP_sec(ep n:Nat)(b:List UInt8)(hb:ofL b≤255):∀k,allP (secL ep n b k)=b.take (49*k)
 |0=>by simp[allP,secL]
 |k+1=>by
  rw[secL_succ,allP_append,allP_one,allP_sec ep n b hb k,(part_bytes (by have:=pcL_length b k;omega) hb).2.2];rw[show 49*(k+1)=49*k+49 by omega,List.take_add];rfl
theorem ofL_le(b:List UInt8):b.length≤49*ofL b:=by unfold ofL;omega
theorem secL_len{ep n:Nat}{b:List UInt8}{k:Nat}{s:List UInt8}(h:s∈secL ep n b k):s.length=64:=by
 unfold secL at h;rw[List.mem_map] at h;obtain⟨i,_,rfl⟩:=h;exact partL_length (by have:=pcL_length b i;omega)
theorem secL_zero{ep n:Nat}{b:List UInt8}{k:Nat}(h:0<k):∃t,secL ep n b k=partL ep n 0 (ofL b) (pcL b 0)::t:=by
 obtain⟨k,rfl⟩:∃j,k=j+1:=⟨k-1,by omega⟩
 unfold secL;rw[List.range_succ_eq_map,List.map_cons];exact⟨_,rfl⟩
theorem chgsL_pieces(cs:List Chg):0<ofL (chgsL cs):=by
 have h:=numL_pos cs.length;unfold ofL chgsL;rw[List.length_append];omega
theorem parts_of{epoch num:Int}{cs:List Chg}(h:(partsL epoch num cs).2=true):
  (partsL epoch num cs).1=secL epoch.toNat num.toNat (chgsL cs) (ofL (chgsL cs))∧ofL (chgsL cs)≤200∧0≤epoch∧epoch≤1073741824∧0≤num∧num≤1073741824:=by
 unfold partsL at h⊢;split at h
 ·cases h
 ·split at h
  ·cases h
  ·rename_i h1 h2
   rw[if_neg h1,if_neg h2];exact⟨rfl,by omega,by omega,by omega,by omega,by omega⟩
theorem parts_count{epoch num:Int}{cs:List Chg}(h:(partsL epoch num cs).2=true):(partsL epoch num cs).1.length=ofL (chgsL cs):=by
 rw[(parts_of h).1,secL_length]
theorem made_frame{epoch num:Int}{cs:List Chg}(h:(partsL epoch num cs).2=true)(hr:readChgs (chgsL cs)=(cs,0))(rest:List (List UInt8)):
  frameS epoch num ((partsL epoch num cs).1++rest)=(cs,(partsL epoch num cs).1.length):=by
 obtain⟨h1,h2,h3,h4,h5,h6⟩:=parts_of h;have hpos:=chgsL_pieces cs;obtain⟨t,ht⟩:=secL_zero (ep:=epoch.toNat) (n:=num.toNat) (b:=chgsL cs) hpos;have htold:toldL ((partsL epoch num cs).1++rest)=ofL (chgsL cs):=by
  rw[h1,ht,List.cons_append];have hpl:=pcL_length (chgsL cs) 0;show(if (partL epoch.toNat num.toNat 0 (ofL (chgsL cs)) (pcL (chgsL cs) 0)).length=64 then b9 _ else 0)=_;rw[if_pos (partL_length (by omega)),(part_bytes (by omega) (by omega)).1]
 have hlen:=parts_count h;have htk:((partsL epoch num cs).1++rest).take (ofL (chgsL cs))=(partsL epoch num cs).1:=List.take_left' hlen;have hall:allP (partsL epoch num cs).1=chgsL cs:=by
  rw[h1,allP_sec _ _ _ (by omega),List.take_of_length_le (ofL_le _)]
 have h64:((partsL epoch num cs).1.all fun s=>s.length==64)=true:=by
  rw[List.all_eq_true,h1];intro s hs;rw[secL_len hs];rfl
 unfold frameS;rw[htold,htk,hall,hr,if_neg (by rw[List.length_append];omega),if_neg (by rw[h64];decide),if_neg (by simp),if_pos rfl,hlen]
theorem readF_stop{f:Nat}{ep:Int}{ss:List (List UInt8)}{k:Nat}(h:(frameS ep k ss).2=0):readF f ep ss k=([],0):=by
 cases f with
 |zero=>rfl
 |succ f=>rw[readF,if_pos h]
theorem readF_made{f:Nat}{ep:Int}{cs:List Chg}{k:Nat}(h:(partsL ep k cs).2=true)(hr:readChgs (chgsL cs)=(cs,0))(rest:List (List UInt8)):
  readF (f+1) ep ((partsL ep k cs).1++rest) k=(cs::(readF f ep rest (k+1)).1,(partsL ep k cs).1.length+(readF f ep rest (k+1)).2):=by
 have hm:=made_frame h hr rest;have hpos:=chgsL_pieces cs;rw[readF,hm,if_neg (by show ¬(partsL ep k cs).1.length=0;rw[parts_count h];omega)];rw[List.drop_left' rfl]
def secsF(ep:Nat):Nat→List (List Chg)→List (List UInt8)
 |_,[]=> []
 |k,c::cs=>(partsL ep k c).1++secsF ep (k+1) cs
def MadeF(ep:Nat):Nat→List (List Chg)→Prop
 |_,[]=>True
 |k,c::cs=>(partsL ep k c).2=true∧readChgs (chgsL c)=(c,0)∧MadeF ep (k+1) cs
theorem secsF_snoc(ep:Nat)(c:List Chg):∀(cs:List (List Chg)) (k:Nat),secsF ep k (cs++ [c])=secsF ep k cs++(partsL ep ((k+cs.length:Nat):Int) c).1
 | [],k=>by simp[secsF]
 |d::cs,k=>by
  rw[List.cons_append,secsF,secsF,secsF_snoc ep c cs (k+1),List.append_assoc,List.length_cons,show k+1+cs.length=k+(cs.length+1) by omega]
theorem secsF_len{ep:Nat}:∀{cs:List (List Chg)} {k:Nat},MadeF ep k cs→cs.length≤(secsF ep k cs).length
 | [],_,_=>Nat.le_refl _
 |c::cs,k,h=>by
  obtain⟨h1,_,h3⟩:=h;have ih:=secsF_len h3;have:=parts_count h1;have:=chgsL_pieces c;rw[secsF,List.length_append,List.length_cons];omega
def Bad(ep:Nat)(b:List UInt8):Prop:=∀n j of,¬GoodS ep n b j of
open Go.RowKit Go.Rst
theorem drop_first{l t:List UInt8}{p:Nat}{b:UInt8}(h:l.drop p=b::t):p<l.length∧l.getD p 0=b:=by
 have hp:p<l.length:=by
  rcases Nat.lt_or_ge p l.length with hp|hp
  ·exact hp
  ·rw[List.drop_eq_nil_of_le hp] at h;cases h
 refine⟨hp,?_⟩;rw[List.drop_eq_getElem_cons hp] at h;injection h with h1 _;simp[List.getD,List.getElem?_eq_getElem hp,h1]
theorem getChange_back{l post:List UInt8}{k:ByteArray}{v:List UInt8}{g:Bool}{q:Nat}(h:l.drop q=chgL (k,v,g)++post)(hk:k.data.toList.length≤30)(hv:v.length≤150)(hg:g=true→v= []):
  getChange l (q:Int)=(k.data.toList,v,g,((q+(chgL (k,v,g)).length:Nat):Int),0):=by
 have e:chgL (k,v,g)=textL k.data.toList++if g then [1] else 0::textL v:=rfl
 rw[e,List.append_assoc] at h;have h1:=getText_back h (by omega) 30;rw[if_neg (by omega)] at h1;have h2:l.drop (q+(textL k.data.toList).length)=(if g then [1] else 0::textL v)++post:=by rw[←List.drop_drop,h,List.drop_left]
 generalize hP:q+(textL k.data.toList).length=P at *
 cases g with
 |true=>
  obtain rfl:=hg rfl;rw[if_pos rfl,List.cons_append] at h2;obtain⟨hp,hb⟩:=drop_first h2;unfold getChange;rw[h1];simp only[ne_eq,not_true_eq_false,if_false,Int.toNat_natCast];rw[if_neg (by omega),hb,if_pos rfl,e];simp only[if_true,List.length_append,List.length_singleton]
  congr 4
  omega
 |false=>
  rw[if_neg (by decide),List.cons_append] at h2;obtain⟨hp,hb⟩:=drop_first h2;have h3:l.drop (P+1)=textL v++post:=by rw[←List.drop_drop,h2];rfl
  have h4:=getText_back h3 (by omega) 150;rw[if_neg (by omega)] at h4;have ei:((P:Nat):Int)+1=((P+1:Nat):Int):=by omega
  unfold getChange;rw[h1];simp only[ne_eq,not_true_eq_false,if_false,Int.toNat_natCast,ei];rw[if_neg (by omega),hb,if_neg (by decide),if_neg (by decide),h4,e];simp only[not_true_eq_false,if_false,Bool.false_eq_true,List.length_append,List.length_cons]
  congr 4
  omega
def ShortC(cs:List Chg):Prop:=∀c∈cs,c.1.data.toList.length≤30∧c.2.1.length≤150∧(c.2.2=true→c.2.1= [])
theorem chgsF_back(l:List UInt8):∀(cs:List Chg) (q:Nat) (acc:List Chg),l.drop q=chgsB cs→ShortC cs→chgsF l cs.length (q:Int) acc=(acc++cs,0)
 | [],q,acc,h,_=>by
  have h0:l.length≤q:=by simpa [chgsB] using h
  rw[List.length_nil,chgsF,if_neg (by omega),List.append_nil]
 |(k,v,g)::cs,q,acc,h,hs=>by
  have e:chgsB ((k,v,g)::cs)=chgL (k,v,g)++chgsB cs:=by unfold chgsB;rw[List.flatMap_cons]
  rw[e] at h;obtain⟨a1,a2,a3⟩:=hs _ (List.mem_cons_self ..);have hg:=getChange_back h a1 a2 a3;rw[List.length_cons,chgsF,hg];simp only[ne_eq,not_true_eq_false,if_false];have h2:l.drop (q+(chgL (k,v,g)).length)=chgsB cs:=by rw[←List.drop_drop,h,List.drop_left]
  rw[chgsF_back l cs _ _ h2 (fun x hx=>hs x (List.mem_cons_of_mem _ hx)),ba_eq];simp
theorem readChgs_back(cs:List Chg)(hn:cs.length≤5000)(hs:ShortC cs):readChgs (chgsL cs)=(cs,0):=by
 have hg:getNum (chgsL cs) 0=_:=getNum_back (q:=0) (n:=cs.length) (L:=chgsL cs) (post:=chgsB cs) rfl (by omega);unfold readChgs;rw[hg];simp only[ne_eq,not_true_eq_false,if_false];rw[if_neg (by omega),Int.toNat_natCast,chgsF_back _ cs _ _ (by rw[Nat.zero_add];unfold chgsL;rw[List.drop_left]) hs,List.nil_append]
theorem madeC_short(l:List UInt8)(k:Nat):ShortC ((rowsAt l k).map chgOf):=by
 intro c hc;obtain⟨r,hr,rfl⟩:=List.mem_map.1 hc;obtain⟨h1,h2⟩:=rowsAt_short l k r hr;unfold chgOf;split
 ·exact⟨h1,Nat.zero_le _,fun _=>rfl⟩
 ·exact⟨h1,h2,fun h=>by cases h⟩
def manyL(l:List UInt8):Int×Int×Int:=if (getNum l 0).2.2=0∧5000<(getNum l 0).1 then ((getNum l 0).1,(getNum l 0).2.1,3) else getNum l 0
theorem many_any(v:Value)(l:List UInt8)(w:World)(hv:RB w v l):Calls Tryz.prog 158 #[v] w fun e w'=>e= .returned (.tuple #[.int .i64 (manyL l).1,.int .i64 (manyL l).2.1,.int .i64 (manyL l).2.2])∧w=w':=by
 have h1:=refGetNum_any v l 0 w hv;have hs:=getNum_spec l 0;have hM:manyL l=if (getNum l 0).2.2=0∧5000<(getNum l 0).1 then ((getNum l 0).1,(getNum l 0).2.1,3) else getNum l 0:=rfl
 generalize getNum l 0=g at *;obtain⟨n,q,er⟩:=g;simp only[] at hM hs h1;have H1:=qH h1;clear h1;rcases hs with ⟨rfl,_⟩|⟨her,rfl,rfl⟩
 ·by_cases hb:5000<n
  ·rw[if_pos ⟨rfl,hb⟩] at hM
   have E:=qH hM;clear hM;go_enter Tryz.func158,Tryz.ntmps158;go_wp2_with fail
   refine H1.out.mono ?_;rintro x w1⟨rfl,rfl⟩;go_wp2
   go_ret3
   rw[E.out];exact⟨rfl,rfl⟩
  ·rw[if_neg (by omega)] at hM
   have E:=qH hM;clear hM;go_enter Tryz.func158,Tryz.ntmps158;go_wp2_with fail
   refine H1.out.mono ?_;rintro x w1⟨rfl,rfl⟩;go_wp2
   go_ret3
   rw[E.out];exact⟨rfl,rfl⟩
 ·rw[if_neg (by omega)] at hM
  have E:=qH hM;have hne:(er==0)=false:=by rcases her with rfl|rfl <;>rfl
  clear hM her;go_enter Tryz.func158,Tryz.ntmps158;go_wp2_with fail
  refine H1.out.mono ?_;rintro x w1⟨rfl,rfl⟩;go_wp2
  go_ret3
  rw[E.out];exact⟨rfl,rfl⟩
def GivesChangeI(w:World)(r:List UInt8×List UInt8×Bool×Int×Int)(x:Ending)(w':World):Prop:=
 ∃u,x= .returned (.tuple #[.agg #[.string ⟨r.1.toArray⟩,u,.bool r.2.2.1],.int .i64 r.2.2.2.1,.int .i64 r.2.2.2.2])∧FB 5 w' w.heap.size u r.2.1∧Below w.heap.size w w'
theorem refChange_any(v:Value)(l:List UInt8)(p:Int)(w:World)(hv:RB w v l):Calls Tryz.prog 159 #[v,.int .i64 p] w (GivesChangeI w (getChange l p)):=by
 have hs1:=getText_spec l p 30;obtain⟨k,q,e1,hg1⟩:∃k q e,getText l p 30=(k,q,e):=⟨_,_,_,rfl⟩
 rw[hg1] at hs1;have bz:∀W,RB W v l→_:=fun W hW=>refGetText_any v l p 30 W hW
 rw[hg1] at bz;have H1:=qH bz;have G1:=qH hg1;have HV:=qH hv;have hv0:=hv;obtain⟨A,c,rfl,hlc,hc,hcells⟩:=hv0;have HC:=qH hcells;unfold maxLen at hc;clear bz hg1 hv hcells;simp only[] at hs1;rcases hs1 with ⟨rfl,h1⟩|⟨her,rfl,rfl⟩
 ·by_cases hin:(l.length:Int)≤q
  ·have hq1:((q:Int)==(l.length:Int))=true:=by rw[beq_iff_eq];omega
   have e:getChange l p=([],[],false,0,10):=by unfold getChange;rw[G1.out];simp[hin]
   rw[e];clear e;go_enter Tryz.func159,Tryz.ntmps159;go_wp2_with fail
   refine(H1.out _ (HV.out.alloc _)).mono ?_;rintro x w1⟨rfl,rfl⟩;go_wp2;refine bodyPost_ret (v:= .tuple #[.agg #[.string ⟨#[]⟩,.slice none 0 0,.bool false],.int .i64 0,.int .i64 10]) (by simp[results,Tryz.results159,go_sem]) rfl ⟨.slice none 0 0,rfl,.inl ⟨rfl,rfl⟩,?_⟩;exact(Below.refl _ _).alloc (Nat.le_refl _) _
  ·obtain⟨q,rfl⟩:=Int.eq_ofNat_of_zero_le h1.1
   have hq:q<l.length:=by omega
   have hq1:((q:Int)==(l.length:Int))=false:=by rw[beq_eq_false_iff_ne];omega
   obtain⟨b,off,rfl,hb,hcell⟩:∃b off,A=some ⟨b,off,none⟩∧b<w.heap.size∧∀j (h:j<l.length),w.cell? ⟨b,off+j,none⟩=some (bv l[j]):=by
    rcases HC.out with rfl|h
    ·simp at hq
    ·exact h
   have hc1:=(World.cell?_alloc_lt w (Obj.cells #[.string ⟨#[]⟩,.slice none 0 0,.bool false] 76) ⟨b,off+q,none⟩ hb).trans (hcell q hq);obtain⟨d,hd⟩:∃d,d=l[q]:=⟨_,rfl⟩
   have wO:(d.toNat:Int)<256:=by have:=d.toNat_lt;omega
   have hgd:l.getD (Int.toNat (q:Int)) 0=d:=by rw[Int.toNat_natCast,List.getD_eq_getElem?_getD,List.getElem?_eq_getElem hq,hd];rfl
   unfold bv at hc1;rw[←hd] at hc1;have GD:=qH hgd;clear hcell hd hgd HC;by_cases hone:d=1
   ·have e:getChange l p=(k,[],true,(q:Int)+1,0):=by unfold getChange;rw[G1.out];simp only[GD.out];simp[hone,hq]
    rw[e];subst hone;clear e;go_enter Tryz.func159,Tryz.ntmps159;go_wp2_with fail
    refine(H1.out _ (HV.out.alloc _)).mono ?_;rintro x w1⟨rfl,rfl⟩;go_wp2;refine bodyPost_ret (v:= .tuple #[.agg #[.string ⟨k.toArray⟩,.slice none 0 0,.bool true],.int .i64 ((q:Int)+1),.int .i64 0]) (by simp[results,Tryz.results159,go_sem]) rfl ⟨.slice none 0 0,rfl,.inl ⟨rfl,rfl⟩,?_⟩;exact(Below.refl _ _).alloc (Nat.le_refl _) _
   ·have pS:((d.toNat:Int)==1)=false:=by
     rw[beq_eq_false_iff_ne];intro h;exact hone (UInt8.toNat_inj.1 (by rw[show(1:UInt8).toNat=1 from rfl];omega))
    by_cases hzero:d=0
    ·subst hzero
     have hs2:=getText_spec l ((q:Int)+1) 150;obtain⟨u,q2,e2,hg2⟩:∃k q' e,getText l ((q:Int)+1) 150=(k,q',e):=⟨_,_,_,rfl⟩
     rw[hg2] at hs2;have cy:∀W,RB W _ l→_:=fun W hW=>refGetText_any (.slice (some ⟨b,off,none⟩) l.length c) l ((q:Int)+1) 150 W hW
     rw[hg2] at cy;have H2:=qH cy;have G2:=qH hg2;clear cy hg2 pS;simp only[] at hs2;rcases hs2 with ⟨rfl,h2⟩|⟨her,rfl,rfl⟩
     ·have e:getChange l p=(k,u,false,q2,0):=by unfold getChange;rw[G1.out];simp only[GD.out,G2.out];simp[hq]
      rw[e];clear e;have hlen:u.length≤150:=by have:=h2.2.2.2.2.1;omega
      go_enter Tryz.func159,Tryz.ntmps159;go_wp2_with fail
      refine(H1.out _ (HV.out.alloc _)).mono ?_;rintro x w1⟨rfl,rfl⟩;go_wp2_with fail
      refine(H2.out _ (HV.out.alloc _)).mono ?_;rintro x w1⟨rfl,rfl⟩;go_wp2_with (refine wpList_bytes rfl (.tmp 63) 9 46 5 rfl Tryz.underlying9 Tryz.underlying46 Tryz.underlying5 (by rfl) ?_ ?_)
      ·unfold maxLen;omega
      ·intro g cc w' bB hb2
       have hx0:w'.cell? ⟨w.heap.size,0,none⟩=some (.string ⟨#[]⟩):=(hb2.cell (p:=⟨w.heap.size,0,none⟩) (by simp)).trans (by simp);have hx1:w'.cell? ⟨w.heap.size,1,none⟩=some (.slice none 0 0):=(hb2.cell (p:=⟨w.heap.size,1,none⟩) (by simp)).trans (by simp);have hx2:w'.cell? ⟨w.heap.size,2,none⟩=some (.bool false):=(hb2.cell (p:=⟨w.heap.size,2,none⟩) (by simp)).trans (by simp);have ii:w'.frozen? ⟨w.heap.size,0,none⟩=false:=(hb2.frozen (p:=⟨w.heap.size,0,none⟩) (by simp)).trans (by simp);have eo:w'.frozen? ⟨w.heap.size,1,none⟩=false:=(hb2.frozen (p:=⟨w.heap.size,1,none⟩) (by simp)).trans (by simp);have hf2:w'.frozen? ⟨w.heap.size,2,none⟩=false:=(hb2.frozen (p:=⟨w.heap.size,2,none⟩) (by simp)).trans (by simp);have hb3:Below w.heap.size w w':=((Below.refl _ _).alloc (Nat.le_refl _) _).trans (hb2.mono (by simp));have jc:=bB.base_ (base':=w.heap.size+1) (Nat.le_refl _);clear hc1;go_wp2;refine bodyPost_ret (v:= .tuple #[.agg #[.string ⟨k.toArray⟩,.slice (some ⟨g,0,none⟩) u.length cc,.bool false],.int .i64 q2,.int .i64 0]) (by simp[results,Tryz.results159,go_sem,hx0,hx1,hx2]) rfl ⟨_,rfl,?_,?_⟩
       ·exact(((jc.setCell (by simp) _).setCell (by simp) _).setCell (by simp) _).base_ (Nat.le_succ _)
       ·exact((hb3.setCell (Nat.le_refl _) _).setCell (Nat.le_refl _) _).setCell (Nat.le_refl _) _
     ·have e:getChange l p=([],[],false,0,e2):=by unfold getChange;rw[G1.out];simp only[GD.out,G2.out];rcases her with rfl|rfl|rfl <;>simp[hq]
      rw[e];have hne:(e2 !=0)=true:=by rcases her with rfl|rfl|rfl <;>rfl
      have DY:(e2==0)=false:=by rcases her with rfl|rfl|rfl <;>rfl
      clear e her;go_enter Tryz.func159,Tryz.ntmps159;go_wp2_with fail
      refine(H1.out _ (HV.out.alloc _)).mono ?_;rintro x w1⟨rfl,rfl⟩;go_wp2_with fail
      refine(H2.out _ (HV.out.alloc _)).mono ?_;rintro x w1⟨rfl,rfl⟩;go_wp2;refine bodyPost_ret (v:= .tuple #[.agg #[.string ⟨#[]⟩,.slice none 0 0,.bool false],.int .i64 0,.int .i64 e2]) (by simp[results,Tryz.results159,go_sem]) rfl ⟨.slice none 0 0,rfl,.inl ⟨rfl,rfl⟩,?_⟩;exact(Below.refl _ _).alloc (Nat.le_refl _) _
    ·have e:getChange l p=([],[],false,0,11):=by unfold getChange;rw[G1.out];simp only[GD.out];simp[hone,hzero,hq]
     rw[e];have Dn:((d.toNat:Int) !=0)=true:=by
      rw[bne_iff_ne];intro h;exact hzero (UInt8.toNat_inj.1 (by rw[show(0:UInt8).toNat=0 from rfl];omega))
     have hbig:(1:Int)<(d.toNat:Int):=by
      rcases Nat.lt_or_ge 1 d.toNat with h|h
      ·omega
      ·exfalso
       rcases(show d.toNat=0∨d.toNat=1 from by omega) with h'|h'
       ·exact hzero (UInt8.toNat_inj.1 h')
       ·exact hone (UInt8.toNat_inj.1 h')
     clear e;go_enter Tryz.func159,Tryz.ntmps159;go_wp2_with fail
     refine(H1.out _ (HV.out.alloc _)).mono ?_;rintro x w1⟨rfl,rfl⟩;go_wp2;refine bodyPost_ret (v:= .tuple #[.agg #[.string ⟨#[]⟩,.slice none 0 0,.bool false],.int .i64 0,.int .i64 11]) (by simp[results,Tryz.results159,go_sem]) rfl ⟨.slice none 0 0,rfl,.inl ⟨rfl,rfl⟩,?_⟩;exact(Below.refl _ _).alloc (Nat.le_refl _) _
 ·have e:getChange l p=([],[],false,0,e1):=by unfold getChange;rw[G1.out];rcases her with rfl|rfl|rfl <;>simp
  rw[e];have hne:(e1 !=0)=true:=by rcases her with rfl|rfl|rfl <;>rfl
  have DY:(e1==0)=false:=by rcases her with rfl|rfl|rfl <;>rfl
  clear e her;go_enter Tryz.func159,Tryz.ntmps159;go_wp2_with fail
  refine(H1.out _ (HV.out.alloc _)).mono ?_;rintro x w1⟨rfl,rfl⟩;go_wp2;refine bodyPost_ret (v:= .tuple #[.agg #[.string ⟨#[]⟩,.slice none 0 0,.bool false],.int .i64 0,.int .i64 e1]) (by simp[results,Tryz.results159,go_sem]) rfl ⟨.slice none 0 0,rfl,.inl ⟨rfl,rfl⟩,?_⟩;exact(Below.refl _ _).alloc (Nat.le_refl _) _
def GivesChgsI(w:World)(r:List Chg×Int)(x:Ending)(w':World):Prop:=
 ∃v,x= .returned (.tuple #[v,.int .i64 r.2])∧OC 5 76 w' w.heap.size v r.1∧Below w.heap.size w w'
theorem refReadChgs_any(v:Value)(l:List UInt8)(w:World)(hv:RB w v l):Calls Tryz.prog 135 #[v] w (GivesChgsI w (readChgs l)):=by
 have h1:=many_any v l w hv;have hs:=getNum_spec l 0;have hM:manyL l=if (getNum l 0).2.2=0∧5000<(getNum l 0).1 then ((getNum l 0).1,(getNum l 0).2.1,3) else getNum l 0:=rfl
 have hR:readChgs l=if (getNum l 0).2.2≠0 then ([],(getNum l 0).2.2) else if 5000<(getNum l 0).1 then ([],3) else chgsF l (getNum l 0).1.toNat (getNum l 0).2.1 []:=rfl
 generalize getNum l 0=g at *;obtain⟨n,q,er⟩:=g;simp only[] at hM hs hR;have HV:=qH hv;obtain⟨Av,cv,rfl⟩:∃A c,v= .slice A l.length c:=by obtain⟨A,c,h,_⟩:=hv;exact⟨A,c,h⟩
 have Er:(l.length:Int)≤9223372036854775807:=by
  obtain⟨A,c,h,h2,h3,_⟩:=HV.out;unfold maxLen at h3;omega
 clear hv;rcases hs with ⟨rfl,hs⟩|⟨her,rfl,rfl⟩
 ·by_cases hb:5000<n
  ·rw[if_pos ⟨rfl,hb⟩] at hM
   rw[if_neg (by simp),if_pos hb] at hR;rw[hM] at h1;have H1:=qH h1;rw[hR];clear hM hR h1;go_enter Tryz.func135,Tryz.ntmps135;go_wp2_with fail
   refine H1.out.mono ?_;rintro x w1⟨rfl,rfl⟩;go_wp2_with fail
   refine wp_loop_rounds 1 ?_;rw[rounds_succ];go_wp2
   go_ret2
   exact⟨_,rfl,OC.nil_ _ _ _ _,Below.refl _ _⟩
  ·obtain⟨n,rfl⟩:=Int.eq_ofNat_of_zero_le hs.1
   rw[if_neg (by omega)] at hM;rw[if_neg (by simp),if_neg hb,Int.toNat_natCast] at hR;rw[hM] at h1;have H1:=qH h1;rw[hR];clear hM hR h1;go_enter Tryz.func135,Tryz.ntmps135;go_wp2_with fail
   refine H1.out.mono ?_;rintro x w1⟨rfl,rfl⟩;go_wp2_with fail
   go_loopw [5,7,8] (fun qv rv i wr=>∃(k:Nat) (acc:List Chg) (qq:Int),k≤n∧i= .int .i64 k∧qv= .int .i64 qq∧acc.length=k∧OC 5 76 wr w.heap.size rv acc∧Below w.heap.size w wr∧chgsF l (n-k) qq acc=chgsF l n q [])
    (fun _ _ i _=>n-(intOf i).toNat)
   case atStart=>exact⟨0,[],q,Nat.zero_le _,rfl,rfl,rfl,OC.nil_ _ _ _ _,Below.refl _ _,rfl⟩
   case round=>
    obtain⟨k,acc,qq,hk,rfl,rfl,hal,aK,ad,heq⟩:=hrel;have HE:=qH heq;have ir:=qH hal;have hsz:=ad.size;clear heq hal;by_cases hlt:k<n
    ·have hstep:chgsF l (n-k) qq acc=if (getChange l qq).2.2.2.2≠0 then ([],(getChange l qq).2.2.2.2) else chgsF l (n-k-1) (getChange l qq).2.2.2.1 (acc++ [(⟨(getChange l qq).1.toArray⟩,(getChange l qq).2.1,(getChange l qq).2.2.1)]):=by
      rw[show n-k=(n-k-1)+1 from by omega,chgsF];rfl
     rw[hstep] at HE;clear hstep;have hcall:=refChange_any (.slice Av l.length cv) l qq wr (HV.out.below ad);generalize getChange l qq=r at *;obtain⟨rk,rl,rg,rq,re⟩:=r;simp only[] at HE hcall;have HC:=qH hcall;clear hcall;go_wp2_with fail
     refine HC.out.mono ?_;rintro x w2⟨u,rfl,dQ,hb2⟩;obtain⟨Au,cu,rfl⟩:=dQ.shape;simp only[] at dQ;by_cases hre:re=0
     ·subst hre
      simp only[ne_eq,not_true_eq_false,if_false] at HE;have fJ:=((aK.below hb2).alloc (Obj.cells #[.string ⟨rk.toArray⟩,.slice Au rl.length cu,.bool rg] 76)).alloc (Obj.cells #[.string ⟨rk.toArray⟩,.slice Au rl.length cu,.bool rg] 76);have dn:=((dQ.base_ (base':=w.heap.size) hsz).below ((Below.refl _ _).alloc (Nat.le_refl _) (Obj.cells #[.string ⟨rk.toArray⟩,.slice Au rl.length cu,.bool rg] 76))).below ((Below.refl _ _).alloc (Nat.le_refl _) (Obj.cells #[.string ⟨rk.toArray⟩,.slice Au rl.length cu,.bool rg] 76));have ag:Below w.heap.size w w2:=ad.trans (hb2.mono hsz);have kh:=ag.alloc ag.size (Obj.cells #[.string ⟨rk.toArray⟩,.slice Au rl.length cu,.bool rg] 76);have aA:=kh.alloc kh.size (Obj.cells #[.string ⟨rk.toArray⟩,.slice Au rl.length cu,.bool rg] 76);obtain⟨us,ah,ho,bC⟩:=fJ;have jH:=qH (show us.length=acc.length by rw[←ah,List.length_map]);have ce:=qH ah;have bm:=ag.size;clear aK dQ ad ah hb2 ag kh;go_wp2_with (at_builtin;refine wpList_own rfl (.tmp 37) (.tmp 39) 56 56 rfl w.heap.size 76 (.agg #[.string ⟨#[]⟩,.slice none 0 0,.bool false]) 3 48 Tryz.underlying56 info76 rfl rfl ho rfl (src_three _ (by simp) Tryz.underlying56 76 _ _ _ rfl rfl rfl) aA (Nat.le_refl _) ?_ ?_ ?_ ?_)
      ·have:=jH.out;have:=ir.out;unfold maxLen;omega
      ·have:=jH.out;have:=ir.out;omega
      ·simp;omega
      intro v' w4 ho' hb4 hg4;have aM:=OC.push (by decide) ho bC dn ho' hg4;rw[ce.out] at aM;have jp:=qH aM;clear ho bC dn ho' hg4 aM;go_wp2;go_roundw
      case rel=>exact⟨k+1,_,rq,by omega,by go_num,rfl,by rw[List.length_append,ir.out];rfl,jp.out,hb4,by rw[←HE.out];congr 1⟩
      case measure=>simp[intOf];omega
     ·have hne:(re !=0)=true:=by simpa using hre
      have hE:=qH (show([],re)=chgsF l n q [] by have h:=HE.out;simpa [hre] using h);have ag:Below w.heap.size w w2:=ad.trans (hb2.mono hsz);clear HE hre;go_wp2
      go_ret2
      rw[←hE.out];exact⟨_,rfl,OC.nil_ _ _ _ _,ag.alloc ag.size _⟩
    ·obtain rfl:k=n:=by omega
     rw[Nat.sub_self,chgsF] at HE;by_cases hend:qq<(l.length:Int)
     ·rw[if_pos hend] at HE
      go_wp2
      go_ret2
      rw[←HE.out];exact⟨_,rfl,OC.nil_ _ _ _ _,ad⟩
     ·rw[if_neg hend] at HE
      go_wp2
      go_ret2
      rw[←HE.out];exact⟨_,rfl,aK,ad⟩
 ·rw[if_neg (by omega)] at hM
  rw[if_pos (by omega)] at hR;rw[hM] at h1;have H1:=qH h1;rw[hR];have hne:(er==0)=false:=by rcases her with rfl|rfl <;>rfl
  have sh:(er !=0)=true:=by rcases her with rfl|rfl <;>rfl
  clear hM hR h1 her;go_enter Tryz.func135,Tryz.ntmps135;go_wp2_with fail
  refine H1.out.mono ?_;rintro x w1⟨rfl,rfl⟩;go_wp2_with fail
  refine wp_loop_rounds 1 ?_;rw[rounds_succ];go_wp2
  go_ret2
  exact⟨_,rfl,OC.nil_ _ _ _ _,Below.refl _ _⟩
end Go.Proofs.YtmbkaedhllfoeaaGreat
