/-
  Texts of the proof, put together.
-/
import Derived.Test.YtmbkaedhllfoeaaGreatKPF
import Derived.Test.YtmbkaedhllfoeaaGreatKPEB
import Derived.Test.YtmbkaedhllfoeaaGreatKPWr
set_option maxRecDepth 100000
set_option maxHeartbeats 4000000
set_option linter.unusedVariables false
namespace Go.Pg
open Go.Rst
theorem sorted_cmp{rs:List Rw}(hs:Sorted rs){j:Nat}(hj:j+1<rs.length):¬cmpS rs[j+1].1 (rs[j]'(by omega)).1<0:=by
 rw[cmp_lt];have:=hs.at (Nat.lt_succ_self j) hj;unfold lt kl at this;rw[bl_asymm this]
 decide
theorem has_at{k:ByteArray}{l:List Rw}(h:posL k l<l.length):hasL k l=decide (cmpS l[posL k l].1 k=0):=by
 unfold hasL;rw[List.getElem?_eq_getElem h];simp only;rw[Bool.eq_iff_iff,beq_iff_eq,decide_eq_true_iff,cmp_eq0]
theorem has_end{k:ByteArray}{l:List Rw}(h:¬posL k l<l.length):hasL k l=false:=by
 unfold hasL;rw[List.getElem?_eq_none (by omega)]
end Go.Pg
namespace Go.Proofs.YtmbkaedhllfoeaaGreat
open Go.RowKit Go.Rst Go.Pg Go.Crc
abbrev byKeyVal:Value:= .func (.func 92) #[] #[]
abbrev halve1Val:Value:= .func (.func 129) #[] #[]
theorem sortedF_any(v:Value)(rs:List Rw)(w:World)(hv:RR w v rs)(hs:Sorted rs)(hlen:rs.length≤3000000000002):
  Calls Tryz.prog 91 #[v,byKeyVal] w fun e w'=>e= .returned (.bool true)∧Below w.heap.size w w':=by
 have HV:=qH hv;have HS:=qH hs;obtain⟨A,c,rfl,_,_⟩:=rr_shape hv;clear hv hs;go_enter Tryz.func91,Tryz.ntmps91;go_wp2
 go_loopw [5] (fun i wr=>∃k:Int,i= .int .i64 k∧ -1≤k∧k<rs.length∧Below w.heap.size w wr) (fun i _=>(intOf i).toNat)
 case atStart=>exact⟨(rs.length:Int)-1,rfl,by omega,by omega,Below.refl _ _⟩
 case round=>
  obtain⟨k,rfl,hk1,hk2,ad⟩:=hrel;obtain⟨Wo,iq⟩:∃x,x=wr:=⟨_,rfl⟩
  subst iq;by_cases hpos:0<k
  ·obtain⟨j,rfl⟩:∃j:Nat,k=(j:Int)+1:=⟨(k-1).toNat,by omega⟩
   have hj:j+1<rs.length:=by omega
   have Jh:j<rs.length:=by omega
   have fH:=sorted_cmp HS.out hj;obtain⟨b,off,u1,rfl,hx1,hy1,hr1⟩:=rr_at HV.out hj;obtain⟨b2,Hr,u2,he,hx2,hy2,hr2⟩:=rr_at HV.out Jh;injection he with he;injection he with e1 e2 _;subst e1;subst e2;have aj:b<w.heap.size:=block_lt_of_cell hx1;have hbs:b<Wo.heap.size:=Nat.lt_of_lt_of_le aj ad.size;have ix:=(ad.cell (p:=⟨b,off+(j+1)*2,none⟩) aj).trans hx1;have mM:=(ad.cell (p:=⟨b,off+(j+1)*2+1,none⟩) aj).trans hy1;have pG:=(ad.cell (p:=⟨b,off+j*2,none⟩) aj).trans hx2;have zc:=(ad.cell (p:=⟨b,off+j*2+1,none⟩) aj).trans hy2;obtain⟨A3,c3,hu1,_⟩:=hr1;obtain⟨A4,c4,hu2,_⟩:=hr2;obtain⟨n1,iz⟩:∃n,n=rs[j+1].2.length:=⟨_,rfl⟩
   obtain⟨n2,iR⟩:∃n,n=rs[j].2.length:=⟨_,rfl⟩
   rw[←iz] at hu1;rw[←iR] at hu2;subst hu1;subst hu2;obtain⟨k1,yH⟩:∃n,n=rs[j+1].1:=⟨_,rfl⟩
   obtain⟨k2,xV⟩:∃n,n=rs[j].1:=⟨_,rfl⟩
   rw[←yH] at ix fH;rw[←xV] at pG fH;have hlt:(cmpS k1 k2<0)=False:=eq_false fH;have q1:(0:Int)≤(j:Int)+1:=by omega
   have q2:(j:Int)+1<rs.length:=by omega
   have q3:(0:Int)≤(j:Int):=by omega
   have q4:(j:Int)<rs.length:=by omega
   have q5:((j:Int)+1).toNat=j+1:=by omega
   have q6:((j:Int)+1)-1=(j:Int):=by omega
   have q7:IntKind.i64.wrap (j:Int)=(j:Int):=by rw[IntKind.wrap_i64];omega
   have HB:=qH ad;have HC:=qH hlt;clear hx1 hy1 hx2 hy2 iz iR yH xV fH hlt ad;go_wp2;refine wp_region_held_drew (S:=SB [Wo]) (by kernel_rfl) (SB.start _) (fun hHeld=>?_);refine tkC 0 ?_;refine tkC 1 ?_;refine tkC 2 ?_;refine tkC 3 ?_;refine tkA 4 (v:=?_) ?_ ?_;rotate_left
   ·intro W hSw;have hq:=((SB.b0 hSw).cell (p:=⟨b,off+(j+1)*2,none⟩) hbs).trans ix;have hq2:=((SB.b0 hSw).cell (p:=⟨b,off+(j+1)*2+1,none⟩) hbs).trans mM;go_simp;try (with_reducible rfl)
   try simp only[Act.put,zA,zB,zC]
   refine tkC 5 ?_;refine tkC 6 ?_;refine tkC 7 ?_;refine tkC 8 ?_;refine tkA 9 (v:=?_) ?_ ?_;rotate_left
   ·intro W hSw;have hq:=((SB.b0 hSw).cell (p:=⟨b,off+j*2,none⟩) hbs).trans pG;have hq2:=((SB.b0 hSw).cell (p:=⟨b,off+j*2+1,none⟩) hbs).trans zc;go_simp;try (with_reducible rfl)
   try simp only[Act.put,zA,zB,zC]
   refine rdA (rs:= [10]) ?_;refine arC (fun K hK=>?_);go_simp;refine(byKey_any k1 k2 _ _ rfl rfl _).mono ?_;rintro e w3⟨rfl,aZ⟩;try (go_wp2_with fail)
   have ac:=SB.step hHeld aZ;refine hK.out _ _ ?_ (fun _=>?_)
   ·exact ac
   clear hK K;try simp only[Act.put,zA,zB,zC]
   have hHeld:=SB.more ac;clear ac;refine wpAnyH_more (S':=SB [w3,Wo]) (fun W h=>SB.less W h) _ _ _ _ ?_;refine tkA 11 (v:=?_) ?_ ?_;rotate_left
   ·intro W hSw;have zU:=HC.out;go_simp;try (with_reducible rfl)
   try simp only[Act.put,zA,zB,zC]
   refine wpAnyH_done (by kernel_rfl) ?_ _;have ak:=qH (HB.out.trans ((SB.b1 hHeld).mono HB.out.size));have hz:=HC.out;clear hHeld ix pG mM zc;go_wp2;go_roundw
   case rel=>exact⟨(j:Int),by go_num,by omega,by omega,ak.out⟩
   case measure=>simp[intOf]
  ·have HB:=qH ad
   clear ad;go_wp2;go_ret;exact⟨rfl,HB.out⟩
theorem bsearch_any(v:Value)(rs:List Rw)(key:ByteArray)(w:World)(hv:RR w v rs)(hs:Sorted rs)(hlen:rs.length≤3000000000002):
  Calls Tryz.prog 70 #[v,.string key,halve1Val] w fun e w'=>e= .returned (.tuple #[.int .i64 (posL key rs:Nat),.bool (hasL key rs)])∧Below w.heap.size w w':=by
 have HV:=qH hv;have HS:=qH hs;obtain⟨A,c,rfl,_,_⟩:=rr_shape hv;clear hv hs;go_enter Tryz.func70,Tryz.ntmps70;go_wp2
 go_loopw [9,10] (fun s9 s10 wr=>∃lo hi:Nat,s9= .int .i64 lo∧s10= .int .i64 hi∧lo≤hi∧hi≤rs.length∧(∀t (h:t<rs.length),t<lo→Op.bytesLess rs[t].1.toList key.toList=true)∧(∀t (h:t<rs.length),hi≤t→Op.bytesLess rs[t].1.toList key.toList=false)∧Below w.heap.size w wr)
  (fun s9 s10 _=>(intOf s10-intOf s9).toNat)
 case atStart=>exact⟨0,rs.length,rfl,rfl,Nat.zero_le _,Nat.le_refl _,fun t _ h=>absurd h (Nat.not_lt_zero _),fun t h h2=>by omega,Below.refl _ _⟩
 case round=>
  obtain⟨lo,hi,rfl,rfl,Ll,hin,hlo,hhi,ad⟩:=hrel;obtain⟨Wo,iq⟩:∃x,x=wr:=⟨_,rfl⟩
  subst iq;by_cases hlt:lo<hi
  ·obtain⟨m,hm⟩:∃m,m=(lo+hi)/2:=⟨_,rfl⟩
   have uH:m<rs.length:=by omega
   have KI:((lo:Int)+(hi:Int))/2=(m:Int):=by omega
   obtain⟨b,off,u1,rfl,hx1,hy1,hr1⟩:=rr_at HV.out uH;have aj:b<w.heap.size:=block_lt_of_cell hx1;have ix:=(ad.cell (p:=⟨b,off+m*2,none⟩) aj).trans hx1;have mM:=(ad.cell (p:=⟨b,off+m*2+1,none⟩) aj).trans hy1;obtain⟨A3,c3,hu1,_⟩:=hr1;obtain⟨n1,iz⟩:∃n,n=rs[m].2.length:=⟨_,rfl⟩
   rw[←iz] at hu1;subst hu1;have fH:=cmp_lt rs[m].1 key;have uj:=qH hlo;have JX:=qH hhi;obtain⟨k1,hk1⟩:∃n,n=rs[m].1:=⟨_,rfl⟩
   have oX:rs[m].1.toList=k1.toList:=by rw[hk1]
   rw[←hk1] at ix fH;have zR:=qH oX;have HB:=qH ad;have q1:(0:Int)≤(m:Int):=by omega
   have q2:(m:Int)<rs.length:=by omega
   have hw1:IntKind.i64.wrap ((lo:Int)+(hi:Int))=(lo:Int)+(hi:Int):=by rw[IntKind.wrap_i64];omega
   have HM:=qH hm;clear hx1 hy1 iz hk1 oX hlo hhi ad hm
   cases hc:Op.bytesLess k1.toList key.toList with
   |true=>
    rw[hc] at fH;have xm:(cmpS k1 key<0)=True:=eq_true (fH.2 rfl);have HC:=qH hc;clear fH hc;go_wp2_with fail
    refine(halve1_any k1 key _ rfl _).mono ?_;rintro e w3⟨rfl,hb3⟩;have ak:=qH (HB.out.trans (hb3.mono HB.out.size));clear hb3;go_wp2;go_roundw
    case rel=>
     have hm:=HM.out;refine⟨m+1,hi,by go_num,rfl,by omega,hin,fun t ht htm=>?_,JX.out,ak.out⟩;rcases Nat.lt_or_ge t m with h|h
     ·have:=HS.out.at h uH
      unfold lt kl at this;rw[zR.out] at this;exact bl_trans _ _ _ this HC.out
     ·obtain rfl:t=m:=by omega
      rw[zR.out];exact HC.out
    case measure=>have hm:=HM.out;simp[intOf];omega
   |false=>
    rw[hc] at fH;have xm:(cmpS k1 key<0)=False:=eq_false (fun h=>by have:=fH.1 h;cases this);have HC:=qH hc;clear fH hc;go_wp2_with fail
    refine(halve1_any k1 key _ rfl _).mono ?_;rintro e w3⟨rfl,hb3⟩;have ak:=qH (HB.out.trans (hb3.mono HB.out.size));clear hb3;go_wp2;go_roundw
    case rel=>
     have hm:=HM.out;refine⟨lo,m,rfl,rfl,by omega,by omega,uj.out,fun t ht htm=>?_,ak.out⟩;cases hcc:Op.bytesLess rs[t].1.toList key.toList
     ·rfl
     ·rcases Nat.lt_or_ge m t with h|h
      ·have:=HS.out.at h ht
       unfold lt kl at this;rw[zR.out] at this;have:=bl_trans _ _ _ this hcc;rw[HC.out] at this;cases this
      ·obtain rfl:t=m:=by omega
       rw[zR.out,HC.out] at hcc;cases hcc
    case measure=>have hm:=HM.out;simp[intOf];omega
  ·obtain rfl:hi=lo:=by omega
   have hpos:posL key rs=hi:=posL_of hin hlo (fun h=>hhi hi h (Nat.le_refl _));by_cases hend:hi<rs.length
   ·obtain⟨b,off,u1,rfl,hx1,hy1,hr1⟩:=rr_at HV.out hend
    have aj:b<w.heap.size:=block_lt_of_cell hx1;have ix:=(ad.cell (p:=⟨b,off+hi*2,none⟩) aj).trans hx1;have mM:=(ad.cell (p:=⟨b,off+hi*2+1,none⟩) aj).trans hy1;obtain⟨A3,c3,hu1,_⟩:=hr1;obtain⟨n1,iz⟩:∃n,n=rs[hi].2.length:=⟨_,rfl⟩
    rw[←iz] at hu1;subst hu1;have hhas:=has_at (k:=key) (l:=rs) (by rw[hpos];exact hend);simp only[hpos] at hhas;obtain⟨k1,hk1⟩:∃n,n=rs[hi].1:=⟨_,rfl⟩
    rw[←hk1] at ix hhas;have HB:=qH ad;have HP:=qH hpos;have q1:(0:Int)≤(hi:Int):=by omega
    have q2:(hi:Int)<rs.length:=by omega
    clear hx1 hy1 iz hk1 hlo hhi ad hpos
    cases hc:decide (cmpS k1 key=0) with
    |true=>
     rw[hc] at hhas;have HH:=qH hhas;have tq:(cmpS k1 key==0)=true:=beq_iff_eq.2 (of_decide_eq_true hc);clear hc hhas;go_wp2_with fail
     refine(halve1_any k1 key _ rfl _).mono ?_;rintro e w3⟨rfl,hb3⟩;have ak:=qH (HB.out.trans (hb3.mono HB.out.size));clear hb3;go_wp2
     go_ret2
     exact⟨by rw[HP.out,HH.out];rfl,ak.out⟩
    |false=>
     rw[hc] at hhas;have HH:=qH hhas;have tq:(cmpS k1 key==0)=false:=beq_eq_false_iff_ne.2 (of_decide_eq_false hc);clear hc hhas;go_wp2_with fail
     refine(halve1_any k1 key _ rfl _).mono ?_;rintro e w3⟨rfl,hb3⟩;have ak:=qH (HB.out.trans (hb3.mono HB.out.size));clear hb3;go_wp2
     go_ret2
     exact⟨by rw[HP.out,HH.out];rfl,ak.out⟩
   ·have HH:=qH (show hasL key rs=false from has_end (by rw[hpos];exact hend))
    have HP:=qH hpos;have HB:=qH ad;clear hlo hhi ad hpos;go_wp2
    go_ret2
    exact⟨by rw[HP.out,HH.out];rfl,HB.out⟩
theorem halve_any(v:Value)(rs:List Rw)(key:ByteArray)(w:World)(hv:RR w v rs)(hs:Sorted rs)(hlen:rs.length≤3000000000002):
  Calls Tryz.prog 93 #[v,.string key] w fun e w'=>e= .returned (.tuple #[.int .i64 (posL key rs:Nat),.bool (hasL key rs)])∧Below w.heap.size w w':=by
 have HC:=qH (bsearch_any v rs key w hv hs hlen);obtain⟨A,c,rfl,_,_⟩:=rr_shape hv;clear hv hs;generalize posL key rs=p at *;generalize hasL key rs=h at *;go_enter Tryz.func93,Tryz.ntmps93;go_wp2_with fail
 refine HC.out.mono ?_;rintro e w1⟨rfl,hb1⟩;have HB:=qH hb1;clear hb1;go_wp2
 go_ret2
 exact⟨rfl,HB.out⟩
end Go.Proofs.YtmbkaedhllfoeaaGreat
